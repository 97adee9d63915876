"""Point 14: tree books."""

import itertools
import unittest

from livecopy.book import Book
from livecopy.errors import NotATree, UnknownPatch
from livecopy.trees import independent_pair, tree_parent, tree_versions
from livecopy.versions import all_versions
from tests.support import chain_book, random_book, refused, wide_book


def tree_book():
    """Patches 2 and 3 require 1 and conflict, 4 requires 3 and 1, 5 conflicts with all others."""
    book = Book([0, 0])
    book.make_patch([(0, 1)])
    book.make_patch([(0, 2)], requires=(1,))
    book.make_patch([(0, 3)], requires=(1,))
    book.make_patch([(1, 4)], requires=(3,))
    book.make_patch([(0, 5)])
    return book


class TreesTest(unittest.TestCase):

    def test_a_book_without_patches_is_a_tree(self):
        book = Book([0])
        self.assertIsNone(independent_pair(book))
        self.assertEqual(tree_versions(book), [()])
        for number in (0, 1, -1, 10 ** 40):
            refused(self, UnknownPatch, (number,), tree_parent, book, number)

    def test_a_book_with_one_patch_is_a_tree(self):
        book = wide_book(1)
        self.assertIsNone(independent_pair(book))
        self.assertEqual((tree_versions(book), tree_parent(book, 1)), ([(), (1,)], 0))

    def test_a_tree(self):
        book = tree_book()
        self.assertIsNone(independent_pair(book))
        self.assertEqual(tree_versions(book), [(), (1,), (1, 2), (1, 3), (1, 3, 4), (5,)])
        self.assertEqual([tree_parent(book, number) for number in book], [0, 1, 1, 3, 0])

    def test_books_that_are_no_trees(self):
        book = tree_book()
        book.make_patch([(1, 9)], conflicts=(5,))
        self.assertEqual(independent_pair(book), (1, 6))
        refused(self, NotATree, (1, 6), tree_versions, book)
        refused(self, NotATree, (1, 6), tree_parent, book, 1)
        self.assertEqual(independent_pair(chain_book()), (1, 4))
        self.assertEqual(independent_pair(wide_book(2)), (1, 2))

    def test_the_least_pair_need_not_contain_the_first_patch(self):
        book = Book([0] * 4)
        book.make_patch([(0, 1)])
        for cell in (1, 2, 3):
            book.make_patch([(cell, 1)], requires=(1,))
        self.assertEqual(independent_pair(book), (2, 3))
        book.make_patch([(2, 7)], conflicts=(1,))
        self.assertEqual(independent_pair(book), (2, 3))

    def test_an_unknown_patch_goes_ahead_of_the_tree(self):
        for number in (0, -1, 5, 10 ** 40):
            refused(self, UnknownPatch, (number,), tree_parent, chain_book(), number)

    def test_random_books(self):
        trees = 0
        for seed in range(300):
            book, model = random_book(self, seed, attempts=4 + seed % 4, cells=2 + seed % 3)
            pairs = [pair for pair in itertools.combinations(book, 2) if model.relation(*pair) == "independent"]
            self.assertEqual(independent_pair(book), min(pairs, default=None))
            if pairs:
                refused(self, NotATree, min(pairs), tree_versions, book)
                continue
            trees += 1
            listed = tree_versions(book)
            self.assertEqual(listed, [()] + [tuple(sorted(model.closure([n]))) for n in book])
            self.assertEqual(sorted(listed), sorted(model.versions()))
            self.assertEqual(len(all_versions(book)), len(book) + 1)
            for number in book:
                self.assertEqual(tree_parent(book, number), max(model.requires[number], default=0))
        self.assertGreater(trees, 20)

    def test_a_later_patch_counts_at_once(self):
        book = wide_book(2)
        self.assertEqual(independent_pair(book), (1, 2))
        book = tree_book()
        self.assertEqual(len(tree_versions(book)), 6)
        book.make_patch([(0, 6)])
        self.assertEqual(tree_versions(book)[-1], (6,))


if __name__ == "__main__":
    unittest.main()

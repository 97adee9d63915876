"""Points 23 to 25: parts of a book."""

import itertools
import random
import unittest

from livecopy.book import Book
from livecopy.errors import BadOrder, UnknownPatch
from livecopy.plain import row_of
from livecopy.subbook import renumber, sub_book, translate
from livecopy.versions import all_versions
from tests.support import chain_book, random_book, refused, same_arguments, snapshot, wide_book


def check_same_patches(case, old, new, numbers):
    """Check that the new book holds these patches, related to each other as in the old one."""
    case.assertEqual(sorted(numbers.values()), list(new))
    for first, second in itertools.product(numbers, repeat=2):
        case.assertEqual(new.relation(numbers[first], numbers[second]), old.relation(first, second))
    for number in numbers:
        case.assertEqual(new.writes_of(numbers[number]), old.writes_of(number))
        case.assertEqual(new.size_of(numbers[number]), old.size_of(number))


class SubBookTest(unittest.TestCase):

    def test_choices(self):
        book = chain_book()
        new, numbers = same_arguments(self, sub_book, book, (4, 3, 2, 4))
        self.assertEqual(numbers, {2: 1, 3: 2, 4: 3})
        self.assertEqual((new.base_row(), len(new), new.size_of(2)), ([10, 20, 30], 3, 5))
        self.assertEqual(new.writes_of(1), [(0, 12), (1, 22)])
        self.assertEqual([new.conflicting(n) for n in new], [(2,), (1,), ()])

    def test_the_empty_choice(self):
        new, numbers = sub_book(chain_book(), ())
        self.assertEqual((new.base_row(), len(new), numbers), ([10, 20, 30], 0, {}))

    def test_requirements_and_conflicts_through_patches_that_are_left_out(self):
        book = Book([0] * 5)
        book.make_patch([(0, 1)])
        book.make_patch([(1, 1)], requires=(1,))
        book.make_patch([(2, 1)], requires=(2,))
        book.make_patch([(3, 1)], conflicts=(2,))
        book.make_patch([(4, 1)], requires=(4,))
        new, numbers = sub_book(book, (5, 3, 1))
        self.assertEqual(numbers, {1: 1, 3: 2, 5: 3})
        self.assertEqual((new.required(2), new.conflicting(2), new.conflicting(3)), ((1,), (3,), (2,)))
        self.assertEqual(new.relation(1, 3), "independent")

    def test_unknown_patches(self):
        book = chain_book()
        for number in (0, -1, 5, 10 ** 40, -10 ** 40):
            refused(self, UnknownPatch, (number,), sub_book, book, (1, number, 77))

    def test_random_choices(self):
        for seed in range(80):
            book, model = random_book(self, seed)
            before = snapshot(book)
            source = random.Random(seed)
            for _ in range(4):
                chosen = tuple(source.choice(list(book)) for _ in range(source.randrange(2 * len(book))))
                new, numbers = sub_book(book, chosen)
                self.assertEqual(numbers, {old: place + 1 for place, old in enumerate(sorted(set(chosen)))})
                self.assertEqual(new.base_row(), book.base_row())
                check_same_patches(self, book, new, numbers)
                translated = {translate(numbers, version) for version in model.versions()}
                self.assertEqual(translated, set(all_versions(new, 256)))
            self.assertEqual(snapshot(book), before)

    def test_the_books_do_not_change_each_other(self):
        book = chain_book()
        for make in (lambda: sub_book(book, (1, 2, 3, 4)), lambda: renumber(book, [1, 2, 3, 4])):
            before = snapshot(book)
            new, _ = make()
            again, _ = make()
            self.assertIsNot(new, book)
            self.assertIsNot(new, again)
            new.make_patch([(0, 99)])
            self.assertEqual(snapshot(book), before)
            self.assertEqual(snapshot(again), before)
            book.make_patch([(2, 99)])
            self.assertEqual(snapshot(again), before)
            book = chain_book()

    def test_the_dict_is_new(self):
        book = chain_book()
        _, numbers = sub_book(book, (2,))
        numbers.clear()
        self.assertEqual(sub_book(book, (2,))[1], {2: 1})


class TranslateTest(unittest.TestCase):

    def test_translate(self):
        self.assertEqual(same_arguments(self, translate, {2: 1, 4: 2, 7: 3}, (1, 2, 3, 7)), (1, 3))
        self.assertEqual(translate({1: 3, 2: 1, 3: 2}, (1, 2)), (1, 3))
        self.assertEqual(translate({}, (1, 2)), ())
        self.assertEqual(translate({1: 5}, ()), ())
        self.assertEqual(translate({5: 9, 3: 4}, (3, 10 ** 40)), (4,))


class RenumberTest(unittest.TestCase):

    def test_an_order(self):
        book = chain_book()
        new, numbers = same_arguments(self, renumber, book, [4, 3, 1, 2])
        self.assertEqual(numbers, {4: 1, 3: 2, 1: 3, 2: 4})
        self.assertEqual([new.writes_of(n) for n in new], [[(2, 34)], [(0, 13)], [(0, 11)], [(0, 12), (1, 22)]])
        self.assertEqual([new.required(n) for n in new], [(), (), (), (3,)])
        self.assertEqual([new.conflicting(n) for n in new], [(), (3, 4), (2,), (2,)])
        self.assertEqual([new.size_of(n) for n in new], [1, 5, 1, 2])
        self.assertEqual(new.base_row(), [10, 20, 30])

    def test_the_book_without_patches(self):
        new, numbers = renumber(Book([5]), [])
        self.assertEqual((len(new), new.base_row(), numbers), (0, [5], {}))
        refused(self, BadOrder, (0,), renumber, Book([5]), [1])

    def test_bad_entries(self):
        book = chain_book()
        for number in (0, -1, -4, 5, 10 ** 40, -10 ** 40):
            refused(self, BadOrder, (1,), renumber, book, [1, number, 2, 3])
        refused(self, BadOrder, (2,), renumber, book, [1, 3, 1, 2, 4])
        refused(self, BadOrder, (0,), renumber, book, [2, 1, 3, 4])
        refused(self, BadOrder, (4,), renumber, book, [1, 2, 3, 4, 4])
        refused(self, BadOrder, (1,), renumber, book, [3, 2, 2, 9])

    def test_patches_that_are_missing(self):
        book = chain_book()
        refused(self, BadOrder, (0,), renumber, book, [])
        refused(self, BadOrder, (3,), renumber, book, [3, 1, 2])
        refused(self, BadOrder, (1,), renumber, book, [4, 4])

    def test_indirect_requirements_count(self):
        book = wide_book(4)
        book.make_patch([(0, 9)], requires=(1,))
        book.make_patch([(1, 9)], requires=(5,))
        refused(self, BadOrder, (1,), renumber, book, [1, 6, 5, 2, 3, 4])
        self.assertEqual(len(renumber(book, [1, 5, 6, 2, 3, 4])[0]), 6)

    def test_random_orders(self):
        for seed in range(80):
            book, model = random_book(self, seed)
            source = random.Random(seed)
            order = list(book)
            source.shuffle(order)
            bad = [place for place, number in enumerate(order) if not model.requires[number] <= set(order[:place])]
            if bad:
                refused(self, BadOrder, (bad[0],), renumber, book, order)
                order.sort(key=lambda number: (len(model.requires[number]), source.random()))
            new, numbers = renumber(book, order)
            self.assertEqual(numbers, {number: place + 1 for place, number in enumerate(order)})
            check_same_patches(self, book, new, numbers)
            for version in model.versions():
                self.assertEqual(row_of(new, translate(numbers, version)), model.row(version))


if __name__ == "__main__":
    unittest.main()

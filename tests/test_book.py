"""Points 4 to 9: books."""

import unittest

from livecopy.book import Book
from livecopy.errors import BadCell, BadSize, Conflict, DuplicateCell, EmptyPatch, UnknownPatch
from tests.support import NO_VERSIONS, chain_book, random_book, refused, same_arguments, snapshot, wide_book


class BaseTest(unittest.TestCase):

    def test_an_empty_base_is_refused(self):
        refused(self, BadCell, (0,), Book, [])

    def test_a_book_starts_without_patches(self):
        book = Book([7])
        self.assertEqual((book.cells, book.base_row(), len(book), list(book)), (1, [7], 0, []))
        self.assertIn((), book)

    def test_the_base_may_hold_any_integers(self):
        base = [-10 ** 60, 0, 10 ** 60] + [5] * 397
        book = Book(base)
        self.assertEqual((book.cells, book.base_row()), (400, base))

    def test_patches_are_numbered_from_1_in_the_order_in_which_they_are_made(self):
        book = Book([0, 0])
        self.assertEqual([book.make_patch([(place % 2, place)]) for place in range(5)], [1, 2, 3, 4, 5])
        self.assertEqual((len(book), list(book)), (5, [1, 2, 3, 4, 5]))

    def test_a_refused_patch_takes_no_number(self):
        book = chain_book()
        refused(self, EmptyPatch, (), book.make_patch, [])
        self.assertEqual(book.make_patch([(1, 1)]), 5)

    def test_a_patch_never_changes(self):
        book = chain_book()
        before = [(book.writes_of(n), book.size_of(n), book.required(n)) for n in book]
        book.make_patch([(0, 99)], requires=(2,), conflicts=(4,), size=9)
        self.assertEqual([(book.writes_of(n), book.size_of(n), book.required(n)) for n in (1, 2, 3, 4)], before)

    def test_a_book_may_be_iterated_over_while_patches_are_made(self):
        book = chain_book()
        for number in book:
            book.make_patch([(1, number)])
        self.assertEqual(list(book), [1, 2, 3, 4, 5, 6, 7, 8])


class PatchTest(unittest.TestCase):

    def check(self, error_class, fields, *args, **named):
        book = chain_book()
        before = snapshot(book)
        refused(self, error_class, fields, book.make_patch, *args, **named)
        self.assertEqual(snapshot(book), before)
        self.assertEqual(book.make_patch([(1, 1)]), 5)

    def test_a_patch_without_writes_is_refused(self):
        self.check(EmptyPatch, (), [])
        self.check(EmptyPatch, (), [], requires=(9,), conflicts=(9,), size=-1)

    def test_cells_that_are_not_in_the_row_are_refused(self):
        for cell in (-1, 3, 400, -10 ** 40, 10 ** 40):
            self.check(BadCell, (cell,), [(0, 1), (cell, 1), (-7, 1)])

    def test_a_second_write_of_a_cell_is_refused(self):
        self.check(DuplicateCell, (1,), [(1, 5), (0, 5), (1, 5), (0, 5)])
        self.check(DuplicateCell, (1,), [(1, 5), (1, 6), (3, 1)])
        self.check(BadCell, (3,), [(1, 5), (3, 1), (1, 6)])

    def test_unknown_numbers_are_refused(self):
        for number in (0, -1, -4, 5, 6, 10 ** 40, -10 ** 40):
            self.check(UnknownPatch, (number,), [(1, 1)], requires=(1, number, 77))
            self.check(UnknownPatch, (number,), [(1, 1)], conflicts=(1, number, 77))

    def test_negative_sizes_are_refused(self):
        self.check(BadSize, (-1,), [(1, 1)], size=-1)
        self.check(BadSize, (-10 ** 12,), [(1, 1)], size=-10 ** 12)

    def test_the_order_of_the_errors(self):
        self.check(BadCell, (3,), [(3, 1)], requires=(9,), conflicts=(8,), size=-1)
        self.check(DuplicateCell, (0,), [(0, 1), (0, 1)], requires=(9,), conflicts=(8,), size=-1)
        self.check(UnknownPatch, (9,), [(0, 1)], requires=(1, 3, 9), conflicts=(8,), size=-1)
        self.check(UnknownPatch, (8,), [(0, 1)], requires=(1, 3), conflicts=(8,), size=-1)
        self.check(BadSize, (-1,), [(0, 1)], requires=(1, 3), size=-1)
        self.check(Conflict, (1, 3), [(0, 1)], requires=(1, 3))

    def test_writes_in_any_order(self):
        book = Book([0] * 400)
        number = book.make_patch([(399, 1), (0, -2), (7, 10 ** 60)])
        self.assertEqual(book.writes_of(number), [(0, -2), (7, 10 ** 60), (399, 1)])

    def test_all_cells_may_be_written(self):
        book = Book([0] * 400)
        book.make_patch([(cell, cell) for cell in range(399, -1, -1)])
        self.assertEqual(book.writes_of(1), [(cell, cell) for cell in range(400)])
        self.assertEqual(book.size_of(1), 400)

    def test_numbers_may_be_given_twice_and_in_any_order(self):
        book = Book([0] * 4)
        for cell in (0, 1, 2):
            book.make_patch([(cell, 1)])
        book.make_patch([(3, 1)], requires=(2, 1, 2), conflicts=(3, 3))
        self.assertEqual((book.required(4), book.conflicting(4)), ((1, 2), (3,)))

    def test_sizes(self):
        book = Book([0] * 3)
        book.make_patch([(0, 1), (2, 1)])
        book.make_patch([(0, 1), (1, 1), (2, 1)], size=0)
        book.make_patch([(0, 1), (1, 1)], size=1)
        book.make_patch([(0, 1)], size=10 ** 12)
        self.assertEqual([book.size_of(number) for number in book], [2, 3, 1, 10 ** 12])


class RelationTest(unittest.TestCase):

    def test_requirements_go_through_several_patches(self):
        book = Book([0] * 5)
        book.make_patch([(0, 1)])
        book.make_patch([(1, 1)], requires=(1,))
        book.make_patch([(2, 1)])
        book.make_patch([(3, 1)], requires=(2,))
        book.make_patch([(4, 1)], requires=(4, 3))
        self.assertEqual([book.required(n) for n in book], [(), (1,), (), (1, 2), (1, 2, 3, 4)])

    def test_direct_conflicts_are_symmetric(self):
        book = wide_book(3)
        book.make_patch([(0, 9)], requires=(1,), conflicts=(3,))
        self.assertEqual([book.conflicting(n) for n in book], [(), (), (4,), (3,)])

    def test_patches_that_write_a_common_cell_conflict_unless_one_requires_the_other(self):
        book = Book([0, 0])
        book.make_patch([(0, 1)])
        book.make_patch([(1, 1), (0, 2)])
        book.make_patch([(0, 3)], requires=(1,))
        self.assertEqual([book.conflicting(n) for n in book], [(2,), (1, 3), (2,)])

    def test_an_indirect_requirement_allows_a_common_cell(self):
        book = Book([0, 0])
        book.make_patch([(0, 1)])
        book.make_patch([(1, 1)], requires=(1,))
        book.make_patch([(0, 2)], requires=(2,))
        self.assertEqual([book.conflicting(n) for n in book], [(), (), ()])

    def test_a_later_patch_inherits_the_conflicts_of_what_it_requires(self):
        book = Book([0] * 4)
        book.make_patch([(0, 1)])
        book.make_patch([(1, 1)], conflicts=(1,))
        book.make_patch([(2, 1)], requires=(1,))
        book.make_patch([(3, 1)], requires=(3,))
        self.assertEqual([book.conflicting(n) for n in book], [(2,), (1, 3, 4), (2,), (2,)])

    def test_a_later_conflict_spreads_to_the_patches_that_require_its_patch(self):
        for cell, conflicts in ((3, (1,)), (0, ())):
            book = Book([0] * 4)
            book.make_patch([(0, 1)])
            book.make_patch([(1, 1)], requires=(1,))
            book.make_patch([(2, 1)], requires=(2,))
            book.make_patch([(cell, 1)], conflicts=conflicts)
            self.assertEqual([book.conflicting(n) for n in book], [(4,), (4,), (4,), (1, 2, 3)])

    def test_conflicts_join_two_chains(self):
        book = Book([0] * 6)
        book.make_patch([(0, 1)])
        book.make_patch([(1, 1)])
        book.make_patch([(2, 1)], requires=(1,))
        book.make_patch([(3, 1)], requires=(2,), conflicts=(1,))
        book.make_patch([(4, 1)], requires=(3,))
        book.make_patch([(5, 1)], requires=(4,))
        self.assertEqual([book.conflicting(n) for n in book],
                         [(4, 6), (), (4, 6), (1, 3, 5), (4, 6), (1, 3, 5)])

    def test_each_answer(self):
        book = chain_book()
        self.assertEqual(book.relation(2, 2), "same")
        self.assertEqual(book.relation(2, 1), "requires")
        self.assertEqual(book.relation(1, 2), "required")
        self.assertEqual((book.relation(1, 3), book.relation(3, 1)), ("conflict", "conflict"))
        self.assertEqual((book.relation(1, 4), book.relation(4, 1)), ("independent", "independent"))

    def test_random_books_follow_the_rules(self):
        for seed in range(300):
            book, model = random_book(self, seed)
            numbers = model.numbers()
            with self.subTest(seed=seed):
                self.assertEqual(list(book), numbers)
                for first in numbers:
                    self.assertEqual(book.writes_of(first), sorted(model.writes[first].items()))
                    self.assertEqual(book.size_of(first), model.sizes[first])
                    self.assertEqual(book.required(first), tuple(sorted(model.requires[first])))
                    self.assertEqual(book.conflicting(first), model.conflicting(first))
                    for second in numbers:
                        self.assertEqual(book.relation(first, second), model.relation(first, second))


class ConflictTest(unittest.TestCase):

    def check(self, book, pair, writes, requires, conflicts=()):
        before = snapshot(book)
        refused(self, Conflict, pair, book.make_patch, writes, requires=requires, conflicts=conflicts)
        self.assertEqual(snapshot(book), before)

    def test_two_required_patches_conflict(self):
        book = wide_book(4)
        book.make_patch([(0, 5)], requires=(1,), conflicts=(3, 2))
        self.check(book, (2, 5), [(3, 9)], (5, 3, 2))
        self.check(book, (3, 5), [(3, 9)], (5, 3))

    def test_the_least_first_goes_ahead_of_the_least_second(self):
        book = Book([0] * 6)
        book.make_patch([(0, 1)])
        book.make_patch([(1, 1)])
        book.make_patch([(2, 1)], conflicts=(2,))
        book.make_patch([(3, 1)], conflicts=(1,))
        self.check(book, (1, 4), [(4, 1)], (1, 2, 3, 4))
        self.check(book, (2, 3), [(4, 1)], (2, 3, 4))

    def test_the_new_patch_counts_with_its_number(self):
        book = wide_book(4)
        self.check(book, (2, 5), [(3, 9)], (2, 4), (2,))
        self.check(book, (1, 5), [(3, 9)], (1, 2, 4), (2, 1))

    def test_the_new_patch_conflicts_with_what_one_of_its_needs_requires(self):
        book = Book([0] * 4)
        book.make_patch([(0, 1)])
        book.make_patch([(1, 1)], requires=(1,))
        self.check(book, (1, 3), [(2, 9)], (2,), (1,))
        self.check(book, (2, 3), [(2, 9)], (2,), (2,))

    def test_an_older_pair_goes_ahead_of_the_pair_with_the_new_patch(self):
        book = wide_book(3)
        book.make_patch([(0, 2)])
        self.check(book, (1, 4), [(2, 9)], (1, 4))
        self.check(book, (1, 4), [(2, 9)], (1, 3, 4), (1, 3))

    def test_the_new_patch_may_be_in_the_least_pair(self):
        book = wide_book(3)
        book.make_patch([(1, 2)])
        self.check(book, (1, 5), [(2, 9)], (1, 2, 4, 3), (1,))

    def test_conflicts_between_earlier_patches_do_not_change(self):
        book = wide_book(4)
        book.make_patch([(0, 9)])
        before = [[book.relation(a, b) for b in range(1, 6)] for a in range(1, 6)]
        book.make_patch([(1, 9), (2, 9)], conflicts=(4, 5))
        self.assertEqual([[book.relation(a, b) for b in range(1, 6)] for a in range(1, 6)], before)


class BookMethodsTest(unittest.TestCase):

    def test_unknown_numbers(self):
        book = chain_book()
        for number in (0, -1, -4, 5, 10 ** 40, -10 ** 40):
            for method in (book.writes_of, book.size_of, book.required, book.conflicting):
                refused(self, UnknownPatch, (number,), method, number)
            refused(self, UnknownPatch, (number,), book.relation, number, number)
            refused(self, UnknownPatch, (number,), book.relation, number, 1)
            refused(self, UnknownPatch, (number,), book.relation, 1, number)
            refused(self, UnknownPatch, (number,), book.relation, number, 77)

    def test_versions_of_the_book(self):
        book = chain_book()
        for version in ((), (1,), (1, 2), (3,), (4,), (1, 4), (1, 2, 4), (3, 4)):
            self.assertIs(version in book, True)
        for version in NO_VERSIONS:
            self.assertIs(version in book, False)
            self.assertIs(version not in book, True)

    def test_length_and_iteration(self):
        book = chain_book()
        self.assertEqual((len(book), list(book), [n for n in book]), (4, [1, 2, 3, 4], [1, 2, 3, 4]))

    def test_what_is_returned_is_new(self):
        book = chain_book()
        before = snapshot(book)
        book.base_row().append(1)
        book.base_row()[0] = 99
        book.writes_of(2).clear()
        book.writes_of(2)[0] = (0, 0)
        self.assertEqual(snapshot(book), before)

    def test_what_is_passed_is_copied(self):
        base = [1, 2, 3]
        writes = [(1, 5), (0, 4)]
        book = Book(base)
        same_arguments(self, book.make_patch, writes, requires=(), conflicts=())
        before = snapshot(book)
        base[0] = 99
        base.append(1)
        writes[0] = (2, 77)
        writes.append((2, 6))
        self.assertEqual(snapshot(book), before)

    def test_a_large_book(self):
        book = Book([0] * 4)
        for number in range(1, 1201):
            book.make_patch([(number % 4, number)], requires=tuple(range(1, number)))
        self.assertEqual(book.required(1200), tuple(range(1, 1200)))
        self.assertEqual(book.conflicting(600), ())
        self.assertIn(tuple(range(1, 1201)), book)


if __name__ == "__main__":
    unittest.main()

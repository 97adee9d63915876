"""Points 2 and 3: what holds for all functions."""

import unittest

from livecopy.book import Book
from livecopy.errors import BadCell, NotAVersion, UnknownPatch
from livecopy.live import LiveCopy
from livecopy.plain import row_of, value_at, writers
from livecopy.plans import best_plan, clash_requests, middle_plan, patch_bound, two_price_plan
from livecopy.requests import plan_cost
from livecopy.tables import price_table
from livecopy.trees import independent_pair
from livecopy.versions import all_versions, clamp, join, meet, median, version_of, without
from livecopy.wishes import best_wish_plan
from tests.support import chain_book, refused, snapshot


class ConventionsTest(unittest.TestCase):

    def test_the_first_wrong_argument_is_reported(self):
        book = chain_book()
        before = snapshot(book)
        refused(self, NotAVersion, ((2,),), join, book, (2,), (1, 3))
        refused(self, NotAVersion, ((1, 3),), meet, book, (), (1, 3))
        refused(self, NotAVersion, ((2,),), without, book, (2,), (9,))
        refused(self, UnknownPatch, (9,), without, book, (1,), (1, 9, 0))
        refused(self, NotAVersion, ((2,),), median, book, (1,), (2,), (3, 1))
        refused(self, NotAVersion, ((3, 1),), clamp, book, (1,), (), (3, 1))
        refused(self, UnknownPatch, (0,), version_of, book, (1, 3, 0, 9))
        refused(self, NotAVersion, ((2,),), writers, book, (2,), 3)
        refused(self, BadCell, (3,), value_at, book, (1,), 3)
        self.assertEqual(snapshot(book), before)

    def test_queries_change_nothing(self):
        book = chain_book()
        before = snapshot(book)
        all_versions(book)
        independent_pair(book)
        version_of(book, (2, 4))
        row_of(book, (1, 2, 4)).reverse()
        without(book, (1, 2), (1,))
        self.assertEqual(snapshot(book), before)

    def test_a_later_patch_counts_at_once(self):
        book = chain_book()
        refused(self, NotAVersion, ((5,),), row_of, book, (5,))
        book.make_patch([(1, 25)])
        self.assertEqual(row_of(book, (5,)), [10, 25, 30])
        self.assertEqual(without(book, (4, 5), (4,)), (5,))
        self.assertEqual(book.conflicting(2), (3, 5))
        self.assertEqual(len(all_versions(book)), 14)

    def test_plans_change_nothing(self):
        book = chain_book()
        before = snapshot(book)
        requests = [((1, 2), 3), ((3,), 1)]
        best_plan(book, (4,), requests, look=4, toggle=[3, 4, 3, 9]).reverse()
        middle_plan(book, (4,), requests, toggle=[3, 4, 3, 9]).clear()
        clash_requests(book, 1, 2, toggle=[3, 4, 3, 9])[1].clear()
        two_price_plan(book, (4,), requests, on=2).clear()
        price_table(book, (4,), requests).clear()
        best_wish_plan(book, (4,), [((1, 2), (3,), 1)]).clear()
        self.assertEqual((snapshot(book), requests), (before, [((1, 2), 3), ((3,), 1)]))
        self.assertEqual(clash_requests(book, 1, 2, toggle=[3, 4, 3, 9])[1], [((1, 2), 8), ((), 7), ((1, 2), 8)])

    def test_more_patches_and_requests_than_the_limits(self):
        book = Book([0] * 400)
        for number in range(1, 1201):
            book.make_patch([(number % 400, number)], requires=(number - 400,) if number > 400 else ())
        version = tuple(range(1, 1201))
        requests = [(version[:place], 1) for place in range(1200)]
        plan = best_plan(book, (), requests, toggle=2)
        self.assertEqual(plan_cost(book, (), requests, plan, toggle=2), patch_bound(book, (), requests, toggle=2))

    def test_books_do_not_share_anything(self):
        base = [1, 2]
        writes = [(0, 5)]
        first, second = Book(base), Book(base)
        first.make_patch(writes)
        second.make_patch(writes)
        second.make_patch([(0, 6)], requires=(1,))
        self.assertEqual((len(first), len(second), first.conflicting(1), first.base_row()), (1, 2, (), [1, 2]))

    def test_a_book_at_the_limits(self):
        value = 10 ** 60 - 1
        book = Book([value] * 400)
        for number in range(1, 201):
            book.make_patch([(cell, -value + number) for cell in range(400)],
                            requires=tuple(range(1, number)), size=10 ** 12)
        version = tuple(range(1, 201))
        self.assertEqual(row_of(book, version), [-value + 200] * 400)
        self.assertEqual(writers(book, version, 399), version)
        self.assertEqual(version_of(book, (200,)), version)
        self.assertIsNone(independent_pair(book))
        self.assertEqual(row_of(book, ()), [value] * 400)
        copy = LiveCopy(book)
        self.assertEqual(copy.lead(version), list(version))
        self.assertEqual(copy.read_row(version[:7]), [-value + 7] * 400)
        self.assertEqual(copy.toggle_all([200, 199, 199] + [200] * 397),
                         [False, False, True] + [True, False] * 198 + [True])
        requests = [(version[:place], 10 ** 30) for place in range(200)] * 2
        self.assertEqual(plan_cost(book, (), requests, [()] * 400, look=10 ** 12), 2 * 199 * 100 * 10 ** 54)


if __name__ == "__main__":
    unittest.main()

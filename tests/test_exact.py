"""Point 46: trying all versions."""

import itertools
import unittest

from livecopy.book import Book
from livecopy.errors import BadPrice, BadRequest, NotAVersion, TooMany
from livecopy.exact import exact_cost, exact_plan
from livecopy.plans import patch_bound
from livecopy.requests import plan_cost
from tests.support import (
    EXAMPLE_REQUESTS, NO_VERSIONS, chain_book, example_book, least_cost, looking, random_case, refused,
    same_arguments, toggling, wide_book)


def chain(patches):
    """A book in which each patch requires the one before it: it has one version more than patches."""
    book = Book([0])
    for number in range(1, patches + 1):
        book.make_patch([(0, number)], requires=(number - 1,) if number > 1 else ())
    return book


class ExactTest(unittest.TestCase):

    def test_the_worked_example(self):
        book = example_book()
        requests = list(EXAMPLE_REQUESTS)
        self.assertEqual(same_arguments(self, exact_cost, book, (), requests), 5)
        self.assertEqual(exact_plan(book, (), requests), [(1, 2)] * 3)

    def test_prices_that_do_not_fit(self):
        book = chain_book()
        requests = [((3,), 4), ((1,), 3), ((3,), 4)]
        # Patch 3 would stay on, and patch 1 would come and go, but they conflict.
        prices = [1, 1, 2, 1]
        self.assertEqual(patch_bound(book, (3,), requests, toggle=prices), 2 + 15)
        self.assertEqual(same_arguments(self, exact_cost, book, (3,), requests, toggle=prices), 3 + 15)
        self.assertEqual(exact_plan(book, (3,), requests, toggle=prices), [(3,)] * 3)

    def test_no_requests_and_no_patches(self):
        self.assertEqual(exact_cost(chain_book(), (1, 4), []), 0)
        self.assertEqual(exact_plan(chain_book(), (1, 4), []), [])
        self.assertEqual(exact_cost(Book([0]), (), [((), 3)] * 2, toggle=[], limit=1), 0)
        self.assertEqual(exact_plan(Book([0]), (), [((), 3)] * 2, toggle=[], limit=1), [()] * 2)

    def test_against_all_plans(self):
        for seed in range(120):
            book, versions, home, requests, source = random_case(self, seed)
            look = source.randrange(1, 4)
            prices = [source.randrange(source.choice((1, 4, 9))) for _ in book]
            cost = same_arguments(self, exact_cost, book, home, requests, look=look, toggle=prices)
            self.assertEqual(cost, least_cost(
                versions, home, requests, toggling(book, prices), looking(book, look)))
            plan = same_arguments(self, exact_plan, book, home, requests, look=look, toggle=prices)
            self.assertEqual(plan_cost(book, home, requests, plan, look=look, toggle=prices), cost)

    def test_every_plan_of_a_small_book(self):
        for seed in range(25):
            book, versions, home, requests, source = random_case(self, seed, most=3, attempts=3)
            prices = [source.randrange(4) for _ in book]
            costs = [plan_cost(book, home, requests, list(plan), toggle=prices)
                     for plan in itertools.product(versions, repeat=len(requests))]
            self.assertEqual(exact_cost(book, home, requests, toggle=prices), min(costs))

    def test_one_price_costs_the_patch_bound(self):
        for seed in range(40):
            book, _, home, requests, source = random_case(self, seed)
            self.assertEqual(exact_cost(book, home, requests, look=2, toggle=3),
                             patch_bound(book, home, requests, look=2, toggle=3))

    def test_the_limit(self):
        book = chain_book()
        for call in (exact_cost, exact_plan):
            for limit in (1, 2, 7):
                refused(self, TooMany, (limit,), call, book, (), [((), 1)], limit=limit)
            call(book, (), [((), 1)], limit=8)
            call(wide_book(6), (), [])
            call(chain(63), (), [])
            refused(self, TooMany, (64,), call, chain(64), (), [])
            call(chain(64), (), [], limit=65)
            refused(self, TooMany, (64,), call, wide_book(60), (), [((), 1)])
            refused(self, TooMany, (63,), call, chain(63), (), [], limit=63)

    def test_great_numbers_at_the_limits(self):
        book = chain(63)
        requests = [(tuple(range(1, 1 + place * 7 % 64)), 10 ** 30 - place) for place in range(60)]
        prices = [10 ** 12 - number for number in book]
        cost = exact_cost(book, (), requests, look=10 ** 12, toggle=prices)
        self.assertEqual(cost, patch_bound(book, (), requests, look=10 ** 12, toggle=prices))
        plan = exact_plan(book, (), requests, look=10 ** 12, toggle=prices)
        self.assertEqual(plan, [version for version, _ in requests])

    def test_errors(self):
        book = chain_book()
        for call in (exact_cost, exact_plan):
            for bad in NO_VERSIONS:
                refused(self, NotAVersion, (bad,), call, book, bad, [((2,), 1)], look=0, toggle=-1, limit=1)
                refused(self, BadRequest, (1,), call, book, (), [((), 1), (bad, 1), ((2,), 1)], look=0, limit=1)
            refused(self, BadRequest, (0,), call, book, (), [((), 0)], look=0, toggle=-1, limit=1)
            for look in (0, -1):
                refused(self, BadPrice, (look,), call, book, (), [((), 1)], look=look, toggle=-7, limit=1)
            refused(self, BadPrice, (-7,), call, book, (), [((), 1)], toggle=-7, limit=1)
            refused(self, BadPrice, (-2,), call, book, (), [((), 1)], toggle=[0, -2, -3, 0], limit=1)
            refused(self, BadPrice, (3,), call, book, (), [((), 1)], toggle=[0, -2, -3], limit=1)


if __name__ == "__main__":
    unittest.main()

"""Points 29 to 32: requests, prices, plans and costs."""

import itertools
import random
import unittest

from livecopy.book import Book
from livecopy.errors import BadPlan, BadPrice, BadRequest, NotAVersion, TooMany, UnknownPatch
from livecopy.requests import cost_parts, gather, plan_cost, spell_out, votes
from tests.support import NO_VERSIONS, chain_book, random_book, refused, same_arguments, wide_book

BAD_REQUESTS = tuple((bad, 1) for bad in NO_VERSIONS) + (((1,), 0), ((), -1), ((1,), -10 ** 30))


def cost_by_words(book, home, requests, plan, look, prices):
    """The cost of a plan, added up as point 31 says it."""
    total = 0
    for (version, count), entry in zip(requests, plan):
        total += sum(prices[number - 1] * book.size_of(number) for number in set(home) ^ set(entry))
        total += sum(look * count * book.size_of(number) for number in set(version) ^ set(entry))
        home = entry
    return total


class PlanCostTest(unittest.TestCase):

    def test_costs(self):
        book = chain_book()
        requests = [((1, 2), 3), ((3,), 1), ((1, 2, 4), 2)]
        plan = [(1,), (3,), (1, 2)]
        # Sizes: 1, 2, 5, 1. Toggles: 1; 1, 3; 3, 1, 2. Looks: 2 (3 times); none; 4 (2 times).
        self.assertEqual(same_arguments(self, plan_cost, book, (), requests, plan), (1 + 6 + 8) + (6 + 0 + 2))
        self.assertEqual(plan_cost(book, (), requests, plan, look=10), 15 + 80)
        self.assertEqual(plan_cost(book, (), requests, plan, toggle=0), 8)
        self.assertEqual(plan_cost(book, (), requests, plan, look=2, toggle=7), 105 + 16)
        prices = [1, 10, 100, 1000]
        self.assertEqual(same_arguments(self, plan_cost, book, (4,), requests, plan, toggle=prices),
                         (1000 + 1) + (1 + 500) + (500 + 1 + 20) + 8)
        self.assertEqual(plan_cost(book, (4,), requests, plan, toggle=[0, 0, 0, 0]), 8)

    def test_no_requests(self):
        self.assertEqual(plan_cost(chain_book(), (1,), [], []), 0)
        self.assertEqual(plan_cost(Book([0]), (), [], [], toggle=[]), 0)
        self.assertEqual(plan_cost(Book([0]), (), [((), 4)], [()], look=10 ** 12, toggle=10 ** 12), 0)

    def test_numbers_at_the_limits(self):
        book = Book([0] * 2)
        book.make_patch([(0, 1)], size=10 ** 12)
        book.make_patch([(1, 1)], size=10 ** 12 - 1)
        requests = [((1,), 10 ** 30), ((2,), 10 ** 30)]
        cost = plan_cost(book, (), requests, [(2,), (2,)], look=10 ** 12, toggle=10 ** 12)
        size = 10 ** 12 + 10 ** 12 - 1
        self.assertEqual(cost, size * 10 ** 42 + (10 ** 12 - 1) * 10 ** 12)
        self.assertEqual(cost_parts(book, (), requests, [(2,), (2,)]), [(0, 10 ** 30), (1, 10 ** 30)])

    def test_the_worked_example(self):
        book = Book([0])
        book.make_patch([(0, 1)])
        book.make_patch([(0, 2)], requires=(1,))
        book.make_patch([(0, 3)])
        requests = [((1, 2), 3), ((3,), 1), ((1, 2), 1)]
        self.assertEqual(plan_cost(book, (), requests, [(1, 2)] * 3), 5)
        self.assertEqual(cost_parts(book, (), requests, [(1, 2)] * 3), [(1, 1), (1, 1), (0, 1)])
        self.assertEqual([votes(book, requests, n) for n in book], [[3, -1, 1], [3, -1, 1], [-3, 1, -1]])

    def test_random_plans(self):
        for seed in range(150):
            book, model = random_book(self, seed)
            source = random.Random(seed)
            versions = model.versions()
            length = source.randrange(7)
            home = source.choice(versions)
            requests = [(source.choice(versions), source.randrange(1, 9)) for _ in range(length)]
            plan = [source.choice(versions) for _ in range(length)]
            prices = [source.randrange(5) for _ in book]
            look = source.randrange(1, 4)
            self.assertEqual(plan_cost(book, home, requests, plan, look=look, toggle=prices),
                             cost_by_words(book, home, requests, plan, look, prices))
            self.assertEqual(plan_cost(book, home, requests, plan, look=look, toggle=3),
                             cost_by_words(book, home, requests, plan, look, [3] * len(book)))
            self.check_parts(book, home, requests, plan)

    def check_parts(self, book, home, requests, plan):
        stops = [home] + plan
        expected = []
        for number in book:
            sides = [number in stop for stop in stops]
            toggles = sum(before != behind for before, behind in itertools.pairwise(sides))
            looks = sum(count for (version, count), on in zip(requests, sides[1:]) if (number in version) != on)
            expected.append((toggles, looks))
        self.assertEqual(cost_parts(book, home, requests, plan), expected)


class ErrorsTest(unittest.TestCase):

    def check(self, error, fields, home, requests, plan, **prices):
        book = chain_book()
        refused(self, error, fields, plan_cost, book, home, requests, plan, **prices)
        if not prices or error is not BadPrice:
            refused(self, error, fields, cost_parts, book, home, requests, plan)

    def test_the_home_comes_first(self):
        for bad in NO_VERSIONS:
            self.check(NotAVersion, (bad,), bad, [((2,), 0)], [(2,)], look=0, toggle=-1)

    def test_bad_requests(self):
        for bad in BAD_REQUESTS:
            self.check(BadRequest, (1,), (), [((1,), 1), bad, ((2,), 0)], [(2,)], look=0, toggle=-1)
            refused(self, BadRequest, (0,), votes, chain_book(), [bad], 9, look=0)

    def test_bad_plans(self):
        asked = [((1,), 1), ((), 1)]
        for bad in NO_VERSIONS:
            self.check(BadPlan, (1,), (), asked, [(1,), bad], look=0, toggle=-1)
            self.check(BadPlan, (3,), (), asked, [(), (), (), bad, bad], look=0, toggle=-1)
            self.check(BadPlan, (0,), (), asked, [bad], look=0, toggle=-1)

    def test_plans_of_a_wrong_length(self):
        asked = [((1,), 1), ((), 1)]
        self.check(BadPlan, (0,), (), asked, [], look=0, toggle=-1)
        self.check(BadPlan, (1,), (), asked, [()], look=0, toggle=-1)
        self.check(BadPlan, (2,), (), asked, [()] * 3, look=0, toggle=-1)
        self.check(BadPlan, (0,), (), [], [()], look=0, toggle=-1)

    def test_bad_look_prices(self):
        for look in (0, -1, -10 ** 12):
            self.check(BadPrice, (look,), (), [((1,), 1)], [()], look=look, toggle=-7)
            refused(self, BadPrice, (look,), votes, chain_book(), [((1,), 1)], 1, look=look)
            refused(self, BadPrice, (look,), votes, chain_book(), [], 1, look=look)

    def test_bad_toggle_prices(self):
        self.check(BadPrice, (-1,), (), [], [], toggle=-1)
        self.check(BadPrice, (-2,), (), [], [], toggle=[0, -2, -3, 1])
        self.check(BadPrice, (3,), (), [], [], toggle=[-1, -2, -3])
        self.check(BadPrice, (5,), (), [], [], toggle=[1, 1, 1, 1, -1])
        self.check(BadPrice, (0,), (), [], [], toggle=[])
        refused(self, BadPrice, (-1,), plan_cost, Book([0]), (), [], [], toggle=-1)
        refused(self, BadPrice, (1,), plan_cost, Book([0]), (), [], [], toggle=[5])

    def test_a_later_patch_counts_at_once(self):
        book = chain_book()
        prices = [1, 1, 1, 1]
        self.assertEqual(plan_cost(book, (), [], [], toggle=prices), 0)
        book.make_patch([(1, 1)])
        refused(self, BadPrice, (4,), plan_cost, book, (), [], [], toggle=prices)
        self.assertEqual(plan_cost(book, (), [((5,), 1)], [()]), 1)


class VotesTest(unittest.TestCase):

    def test_votes(self):
        book = chain_book()
        requests = [((1, 2), 3), ((4,), 10 ** 30), ((1,), 1)]
        self.assertEqual(same_arguments(self, votes, book, requests, 1), [3, -10 ** 30, 1])
        self.assertEqual(votes(book, requests, 2, look=5), [15, -5 * 10 ** 30, -5])
        self.assertEqual(votes(book, [], 3), [])

    def test_the_order_of_the_errors(self):
        book = chain_book()
        refused(self, BadRequest, (1,), votes, book, [((), 1), ((2,), 1)], 9, look=0)
        for number in (0, -1, 5, 10 ** 40):
            refused(self, UnknownPatch, (number,), votes, book, [((), 1)], number, look=0)
        refused(self, BadPrice, (0,), votes, book, [((), 1)], 4, look=0)


class GatherTest(unittest.TestCase):

    def test_neighbours_are_joined(self):
        requests = [((1,), 2), ((1,), 10 ** 30), ((), 1), ((1,), 1), ((), 3), ((), 4), ((), 5)]
        self.assertEqual(same_arguments(self, gather, requests),
                         [((1,), 10 ** 30 + 2), ((), 1), ((1,), 1), ((), 12)])
        self.assertEqual(gather([]), [])
        self.assertEqual(gather([((9, 8), 1)]), [((9, 8), 1)])

    def test_the_list_is_new(self):
        requests = [((1,), 2), ((), 3)]
        gather(requests).clear()
        spell_out(requests).clear()
        self.assertEqual(requests, [((1,), 2), ((), 3)])


class SpellOutTest(unittest.TestCase):

    def test_counts_are_spelled_out(self):
        self.assertEqual(same_arguments(self, spell_out, [((1,), 3), ((), 1), ((1,), 1)]),
                         [((1,), 1)] * 3 + [((), 1), ((1,), 1)])
        self.assertEqual(spell_out([]), [])
        self.assertEqual(spell_out([((9, 8), 2)]), [((9, 8), 1)] * 2)

    def test_limits(self):
        requests = [((1,), 3), ((2,), 4)]
        self.assertEqual(len(spell_out(requests, 7)), 7)
        self.assertEqual(len(spell_out(requests, limit=10 ** 30)), 7)
        for limit in (1, 2, 3, 6):
            refused(self, TooMany, (limit,), spell_out, requests, limit)
        self.assertEqual(len(spell_out([((), 1)] * 399 + [((1,), 1)])), 400)
        self.assertEqual(len(spell_out([((), 400)])), 400)
        refused(self, TooMany, (400,), spell_out, [((), 401)])
        refused(self, TooMany, (400,), spell_out, [((), 400), ((1,), 1)])

    def test_counts_that_are_too_large_to_go_through(self):
        refused(self, TooMany, (400,), spell_out, [((), 10 ** 30)])
        refused(self, TooMany, (10 ** 29,), spell_out, [((), 5), ((1,), 10 ** 30)], 10 ** 29)

    def test_gathering_what_was_spelled_out(self):
        requests = [((1,), 3), ((), 2), ((1,), 1)]
        self.assertEqual(gather(spell_out(requests)), requests)
        book = wide_book(1)
        plan = [(1,)] * 3 + [()] * 2 + [(1,)]
        self.assertEqual(plan_cost(book, (), spell_out(requests), plan),
                         plan_cost(book, (), requests, [(1,), (), (1,)]))


if __name__ == "__main__":
    unittest.main()

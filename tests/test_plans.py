"""Points 41 to 45: plans."""

import itertools
import random
import unittest
from math import isqrt

from livecopy.book import Book
from livecopy.errors import (
    BadPlan, BadPrice, BadRequest, CheapOn, NoClash, NotAVersion, NotRelated, PriceClash, UnknownPatch)
from livecopy.plans import (
    best_plan, clash_requests, middle_plan, patch_bound, two_price_cost, two_price_plan)
from livecopy.pricing import price_clash
from livecopy.requests import plan_cost, votes
from livecopy.counters import solo_cost
from livecopy.tables import stretch_plan
from livecopy.versions import all_versions, version_of
from tests.support import (
    EXAMPLE_REQUESTS, NO_VERSIONS, chain_book, example_book, least_cost, looking, random_book, random_case, refused,
    same_arguments, snapshot, toggling, wide_book)

GREAT = 10 ** 30


def resized(book, sizes):
    """The same book with other sizes."""
    new = Book(book.base_row())
    for number, size in zip(book, sizes):
        earlier = [other for other in book.conflicting(number) if other < number]
        new.make_patch(book.writes_of(number), requires=book.required(number), conflicts=tuple(earlier), size=size)
    return new


def fitting_prices(book, source):
    """A look price and a list of different prices that fit the book, or None."""
    look = source.randrange(2, 12)
    middle = source.randrange(3 * look)
    for _ in range(30):
        # Near a multiple of the look price, so that many patches have two stretches.
        prices = [max(0, (middle + source.choice((0, 0, 0, 1, look // 2, look)))) for _ in book]
        if len(set(prices)) > 1 and price_clash(book, look=look, toggle=prices) is None:
            return look, prices
    return None


def two_ways(book, on, off):
    """What a move costs if the ways have different prices."""
    def cost(place, entry):
        entering = sum(book.size_of(n) for n in set(entry) - set(place))
        leaving = sum(book.size_of(n) for n in set(place) - set(entry))
        return on * entering + off * leaving
    return cost


class PlanCase(unittest.TestCase):

    def check_common_errors(self, call, **bad_prices):
        """The home, the requests and the prices are checked in this order."""
        book = chain_book()
        for bad in NO_VERSIONS:
            refused(self, NotAVersion, (bad,), call, book, bad, [((2,), 1)], **bad_prices)
            refused(self, BadRequest, (1,), call, book, (), [((), 1), (bad, 1), ((2,), 1)], **bad_prices)
        for count in (0, -1, -10 ** 40):
            refused(self, BadRequest, (0,), call, book, (), [((), count)], **bad_prices)

    def check_prices(self, call, least=0):
        """The look price is checked ahead of the toggle prices."""
        book = chain_book()
        below = least - 1
        for look in (0, -1, -10 ** 12):
            refused(self, BadPrice, (look,), call, book, (), [((), 1)], look=look, toggle=below)
            refused(self, BadPrice, (look,), call, book, (), [((), 1)], look=look, toggle=[1])
        refused(self, BadPrice, (below,), call, book, (), [((), 1)], toggle=below)
        refused(self, BadPrice, (below - 1,), call, book, (), [((), 1)], toggle=[8, below - 1, below, 9])
        for prices in ([], [below] * 3, [1, 2, 3, 4, below]):
            refused(self, BadPrice, (len(prices),), call, book, (), [], toggle=prices)
        refused(self, BadPrice, (below,), call, Book([0]), (), [], toggle=below)
        refused(self, BadPrice, (1,), call, Book([0]), (), [], toggle=[below])


class PatchBoundTest(PlanCase):

    def test_bounds(self):
        book = example_book()
        requests = list(EXAMPLE_REQUESTS)
        self.assertEqual(same_arguments(self, patch_bound, book, (), requests), 5)
        self.assertEqual(patch_bound(book, (1, 2), requests), 3)
        self.assertEqual(patch_bound(book, (3,), requests), 6)
        self.assertEqual(patch_bound(book, (), requests, toggle=0), 0)
        self.assertEqual(patch_bound(book, (), requests, look=3, toggle=[2, 0, 100]), 5 + 3)
        self.assertEqual(patch_bound(book, (), []), 0)
        self.assertEqual(patch_bound(Book([0]), (), [((), 3)], toggle=[]), 0)

    def test_sizes_count(self):
        self.assertEqual(patch_bound(chain_book(), (), [((3, 4), 2)], look=5, toggle=[1, 1, 3, 100]), 15 + 10)

    def test_by_words(self):
        for seed in range(80):
            book, versions, home, requests, source = random_case(self, seed)
            prices = [source.randrange(9) for _ in book]
            look = source.randrange(1, 4)
            bound = same_arguments(self, patch_bound, book, home, requests, look=look, toggle=prices)
            self.assertEqual(bound, sum(
                book.size_of(n) * solo_cost(n in home, votes(book, requests, n, look=look), prices[n - 1])
                for n in book))
            self.assertLessEqual(bound, least_cost(
                versions, home, requests, toggling(book, prices), looking(book, look)))

    def test_errors(self):
        self.check_common_errors(patch_bound, look=0, toggle=-1)
        self.check_prices(patch_bound)


class BestPlanTest(PlanCase):

    def test_the_worked_example(self):
        book = example_book()
        requests = list(EXAMPLE_REQUESTS)
        self.assertEqual(same_arguments(self, best_plan, book, (), requests), [(1, 2)] * 3)
        self.assertEqual(plan_cost(book, (), requests, [(1, 2)] * 3), 5)

    def test_lists_without_two_different_prices(self):
        book = chain_book()
        requests = [((1, 2), 3), ((3,), 4), ((1, 4), 1)]
        for price in range(6):
            self.assertEqual(best_plan(book, (4,), requests, look=2, toggle=[price] * 4),
                             best_plan(book, (4,), requests, look=2, toggle=price))
        self.assertEqual(best_plan(wide_book(1), (), [((1,), 3)], toggle=[3]), [()])
        self.assertEqual(best_plan(wide_book(1), (), [((1,), 3)], toggle=[2]), [(1,)])
        self.assertEqual(best_plan(Book([0]), (), [((), 3)] * 2, toggle=[]), [(), ()])
        self.assertEqual(best_plan(Book([0]), (), [((), 3)] * 2), [(), ()])
        self.assertEqual(best_plan(chain_book(), (), []), [])

    def test_one_price_against_all_plans(self):
        for seed in range(200):
            book, versions, home, requests, source = random_case(self, seed)
            look, toggle = source.randrange(1, 4), source.randrange(9)
            plan = same_arguments(self, best_plan, book, home, requests, look=look, toggle=toggle)
            self.assertEqual([entry for entry in plan if entry not in versions], [])
            cost = plan_cost(book, home, requests, plan, look=look, toggle=toggle)
            self.assertEqual(cost, patch_bound(book, home, requests, look=look, toggle=toggle))
            self.assertEqual(cost, least_cost(
                versions, home, requests, toggling(book, [toggle] * len(book)), looking(book, look)))

    def test_every_other_plan_of_this_cost_contains_it(self):
        for seed in range(40):
            book, versions, home, requests, source = random_case(self, seed, most=3, attempts=4)
            look, toggle = source.randrange(1, 3), source.randrange(4)
            best = best_plan(book, home, requests, look=look, toggle=toggle)
            bound = patch_bound(book, home, requests, look=look, toggle=toggle)
            for plan in itertools.product(versions, repeat=len(requests)):
                if plan_cost(book, home, requests, list(plan), look=look, toggle=toggle) == bound:
                    self.assertTrue(all(set(entry) <= set(other) for entry, other in zip(best, plan)))

    def test_lists_that_fit(self):
        found = 0
        for seed in range(700):
            book, versions, home, requests, source = random_case(self, seed, most=5, attempts=7)
            fitting = fitting_prices(book, source)
            if fitting is None:
                continue
            found += 1
            look, prices = fitting
            plan = same_arguments(self, best_plan, book, home, requests, look=look, toggle=prices)
            self.assertEqual([entry for entry in plan if entry not in versions], [])
            cost = plan_cost(book, home, requests, plan, look=look, toggle=prices)
            self.assertEqual(cost, patch_bound(book, home, requests, look=look, toggle=prices))
            other = resized(book, [source.randrange(1, 99) for _ in book])
            self.assertEqual(best_plan(other, home, requests, look=look, toggle=prices), plan)
        self.assertGreater(found, 300)

    def check_choices(self, book, prices):
        """Try requests for a list that fits, with the look price 4: the price 4 lies in the stretches 1 and 2."""
        versions = all_versions(book)
        source = random.Random(42)
        for _ in range(150):
            requests = [(source.choice(versions), source.randrange(1, 5)) for _ in range(6)]
            home = source.choice(versions)
            plan = best_plan(book, home, requests, look=4, toggle=prices)
            self.assertEqual([entry for entry in plan if entry not in book], [])
            self.assertEqual(plan_cost(book, home, requests, plan, look=4, toggle=prices),
                             patch_bound(book, home, requests, look=4, toggle=prices))

    def test_each_way_to_choose_a_row(self):
        book = Book([0])
        book.make_patch([(0, 1)])
        book.make_patch([(0, 2)], requires=(1,))
        for prices in ([4, 3], [4, 5], [3, 4], [5, 4], [4, 6], [6, 4], [2, 4], [4, 2]):
            self.check_choices(book, prices)

    def test_a_patch_between_two_stretches(self):
        book = wide_book(3)
        book.make_patch([(0, 9)], requires=(1, 2, 3))
        self.check_choices(book, [3, 5, 4, 4])
        self.check_choices(book, [4, 5, 3, 4])
        book = Book([0, 0])
        book.make_patch([(0, 1), (1, 1)])
        book.make_patch([(0, 2)], requires=(1,))
        book.make_patch([(1, 2)], requires=(1,))
        self.check_choices(book, [4, 3, 5])
        self.check_choices(book, [4, 5, 3])
        self.check_choices(book, [4, 4, 5])
        book = wide_book(2)
        book.make_patch([(0, 2), (1, 2)])
        self.check_choices(book, [3, 5, 4])
        self.check_choices(book, [5, 3, 4])
        self.check_choices(book, [4, 3, 4])

    def test_prices_that_do_not_fit(self):
        book = chain_book()
        requests = [((1, 2), 3)]
        refused(self, PriceClash, (1, 2, 3), best_plan, book, (), requests, toggle=[1, 2, 1, 0])
        refused(self, PriceClash, (1, 3, 200), best_plan, book, (), requests, look=100, toggle=[50, 50, 101, 0])
        refused(self, PriceClash, (1, 2, 3), best_plan, book, (), [], toggle=[1, 2, 1, 0])
        for seed in range(60):
            book, _ = random_book(self, seed)
            source = random.Random(seed)
            look, prices = source.randrange(1, 5), [source.randrange(6) for _ in book]
            clash = price_clash(book, look=look, toggle=prices)
            if clash is not None:
                refused(self, PriceClash, clash, best_plan, book, (), [((), 1)], look=look, toggle=prices)

    def test_great_numbers(self):
        book = wide_book(2)
        requests = [((1,), GREAT), ((2,), GREAT - 1), ((1,), 1)]
        self.assertEqual(best_plan(book, (), requests, look=10 ** 12, toggle=10 ** 42), [()] * 3)
        # 1 stays on beside the second request only if the toggles are dearer than the looks.
        self.assertEqual(best_plan(book, (), requests, look=1, toggle=GREAT // 4), [(1,), (2,), (2,)])

    def test_a_list_at_the_limits(self):
        book = wide_book(200)
        requests = [(tuple(range(1 + place % 50, 150)), GREAT - place) for place in range(400)]
        for toggle in (10 ** 12, [10 ** 12 - number for number in book]):
            plan = best_plan(book, (), requests, look=10 ** 12, toggle=toggle)
            self.assertEqual(plan_cost(book, (), requests, plan, look=10 ** 12, toggle=toggle),
                             patch_bound(book, (), requests, look=10 ** 12, toggle=toggle))

    def test_errors(self):
        self.check_common_errors(best_plan, look=0, toggle=-1)
        self.check_common_errors(best_plan, look=1, toggle=[1, 2, 1, 0])
        self.check_prices(best_plan)

    def test_the_list_is_new(self):
        book = chain_book()
        requests = [((3,), 2)]
        before = snapshot(book)
        best_plan(book, (), requests).clear()
        self.assertEqual(best_plan(book, (), requests), [(3,)])
        self.assertEqual((snapshot(book), requests), (before, [((3,), 2)]))

    def test_a_later_patch_counts_at_once(self):
        book = chain_book()
        refused(self, BadRequest, (0,), best_plan, book, (), [((5,), 9)])
        book.make_patch([(1, 1)])
        self.assertEqual(best_plan(book, (), [((5,), 9)]), [(5,)])


class ClashRequestsTest(PlanCase):

    def test_conflicting_patches(self):
        book = chain_book()
        for pair in ((1, 3), (3, 1)):
            self.assertEqual(same_arguments(self, clash_requests, book, *pair, toggle=[1, 0, 2, 0]),
                             ((3,), [((3,), 4), ((1,), 3), ((3,), 4)]))
            self.assertEqual(clash_requests(book, *pair, look=3, toggle=[2, 0, 1, 0]),
                             ((1,), [((1,), 2), ((3,), 1), ((1,), 2)]))
        self.assertEqual(clash_requests(book, 2, 3, toggle=[0, 9, 0, 0]),
                         ((1, 2), [((1, 2), 2), ((3,), 1), ((1, 2), 2)]))

    def test_requirements(self):
        book = chain_book()
        for pair in ((1, 2), (2, 1)):
            self.assertEqual(clash_requests(book, *pair, toggle=[1, 9, 0, 0]),
                             ((1, 2), [((1, 2), 4), ((), 3), ((1, 2), 4)]))
            self.assertEqual(clash_requests(book, *pair, look=5, toggle=[9, 3, 0, 0]),
                             ((), [((), 3), ((1, 2), 2), ((), 3)]))

    def test_every_plan_costs_more_than_the_bound(self):
        found = 0
        for seed in range(250):
            book, versions, _, _, source = random_case(self, seed)
            look, prices = source.randrange(1, 5), [source.randrange(8) for _ in book]
            clash = price_clash(book, look=look, toggle=prices)
            if clash is None:
                continue
            found += 1
            first, second, multiple = clash
            home, requests = clash_requests(book, first, second, look=look, toggle=prices)
            self.assertEqual([count * look for _, count in requests], [multiple + look, multiple, multiple + look])
            self.assertEqual(clash_requests(book, second, first, look=look, toggle=prices), (home, requests))
            self.assertGreater(
                least_cost(versions, home, requests, toggling(book, prices), looking(book, look)),
                patch_bound(book, home, requests, look=look, toggle=prices))
        self.assertGreater(found, 100)

    def test_errors(self):
        book = chain_book()
        for number in (0, -1, 5, 10 ** 40, -10 ** 40):
            refused(self, UnknownPatch, (number,), clash_requests, book, number, 77, look=0, toggle=-1)
            refused(self, UnknownPatch, (number,), clash_requests, book, 1, number, look=0, toggle=-1)
            refused(self, UnknownPatch, (number,), clash_requests, book, number, number, look=0, toggle=-1)
        for pair in ((1, 1), (4, 4), (1, 4), (4, 1), (3, 4)):
            refused(self, NotRelated, pair, clash_requests, book, *pair, look=0, toggle=-1)
        for pair in ((1, 2), (3, 1)):
            refused(self, BadPrice, (0,), clash_requests, book, *pair, look=0, toggle=-1)
            refused(self, BadPrice, (-1,), clash_requests, book, *pair, toggle=-1)
            refused(self, BadPrice, (3,), clash_requests, book, *pair, toggle=[1, 2, -3])
            refused(self, BadPrice, (-3,), clash_requests, book, *pair, toggle=[1, 2, -3, -4])
            refused(self, NoClash, pair, clash_requests, book, *pair)
            refused(self, NoClash, pair, clash_requests, book, *pair, toggle=[7] * 4)
            refused(self, NoClash, pair, clash_requests, book, *pair, look=6, toggle=[0, 3, 2, 9])


class MiddlePlanTest(PlanCase):

    def test_the_stretch(self):
        book = chain_book()
        requests = [((1, 2), 3), ((3,), 4), ((1, 4), 1), ((3,), 9)]
        for look, prices in ((1, [1, 2, 3, 4]), (3, [7, 1, 50, 2]), (2, [5, 5, 5, 5]), (10, [1, 1, 1, 2])):
            stretch = isqrt(4 * min(prices) * max(prices)) // look
            self.assertEqual(same_arguments(self, middle_plan, book, (4,), requests, look=look, toggle=prices),
                             stretch_plan(book, (4,), requests, stretch))

    def test_rounding(self):
        # 4 * 1 * 3 = 12, its root is 3: for the look price 1 this is stretch 3, and for 2 it is stretch 1.
        book = wide_book(2)
        requests = [((1,), 2)]
        self.assertEqual(middle_plan(book, (), requests, toggle=[1, 3]), [(1,)])
        self.assertEqual(stretch_plan(book, (), requests, 3), [(1,)])
        self.assertEqual(stretch_plan(book, (), requests, 4), [()])
        self.assertEqual(middle_plan(book, (), requests, toggle=[2, 3]), [()])
        self.assertEqual(middle_plan(book, (), requests, look=2, toggle=[2, 3]), [(1,)])
        self.assertEqual(middle_plan(book, (), requests, look=2, toggle=[4, 4]), [()])

    def test_one_price(self):
        for seed in range(60):
            book, _, home, requests, source = random_case(self, seed)
            look, toggle = source.randrange(1, 4), source.randrange(1, 9)
            plan = middle_plan(book, home, requests, look=look, toggle=toggle)
            self.assertEqual(plan_cost(book, home, requests, plan, look=look, toggle=toggle),
                             patch_bound(book, home, requests, look=look, toggle=toggle))

    def test_how_much_it_may_cost(self):
        for seed in range(200):
            book, versions, home, requests, source = random_case(self, seed)
            look, prices = source.randrange(1, 5), [source.randrange(1, 30) for _ in book]
            plan = same_arguments(self, middle_plan, book, home, requests, look=look, toggle=prices)
            self.assertEqual([entry for entry in plan if entry not in versions], [])
            cost = plan_cost(book, home, requests, plan, look=look, toggle=prices)
            bound = patch_bound(book, home, requests, look=look, toggle=prices)
            self.assertLessEqual(cost ** 2 * min(prices), bound ** 2 * max(prices))

    def test_books_without_patches(self):
        self.assertEqual(middle_plan(Book([0]), (), [((), 2)] * 3), [()] * 3)
        self.assertEqual(middle_plan(Book([0]), (), [((), 2)] * 3, look=7, toggle=[]), [()] * 3)
        self.assertEqual(middle_plan(Book([0]), (), [], toggle=1), [])

    def test_great_prices(self):
        book = wide_book(2)
        plan = middle_plan(book, (), [((1,), 10 ** 12), ((2,), GREAT)], toggle=[1, 10 ** 12])
        self.assertEqual(plan, [(1,), (2,)])

    def test_errors(self):
        self.check_common_errors(middle_plan, look=0, toggle=0)
        self.check_prices(middle_plan, least=1)


class TwoPriceTest(PlanCase):

    def test_costs(self):
        book = chain_book()
        requests = [((1, 2), 3), ((3,), 1), ((1, 2, 4), 2)]
        plan = [(1,), (3,), (1, 2)]
        # On: 1, 5, 3. Off: none, 1, 5. Looks: 2 (3 times), none, 1 (2 times).
        self.assertEqual(same_arguments(self, two_price_cost, book, (), requests, plan), 9 + 6 + 8)
        self.assertEqual(two_price_cost(book, (), requests, plan, look=10, on=100, off=0), 980)
        self.assertEqual(two_price_cost(book, (4,), requests, plan, on=0, off=1000), 7000 + 8)
        self.assertEqual(two_price_cost(book, (4,), [], []), 0)

    def test_equal_prices(self):
        for seed in range(40):
            book, versions, home, requests, source = random_case(self, seed)
            plan = [source.choice(versions) for _ in requests]
            self.assertEqual(two_price_cost(book, home, requests, plan, look=2, on=5, off=5),
                             plan_cost(book, home, requests, plan, look=2, toggle=5))
            best = two_price_plan(book, home, requests, look=2, on=3, off=3)
            self.assertEqual(best, best_plan(book, home, requests, look=2, toggle=3))

    def test_plans(self):
        book = wide_book(1)
        requests = [((1,), 3), ((), 2)]
        self.assertEqual(same_arguments(self, two_price_plan, book, (), requests, on=3, off=9), [()] * 2)
        self.assertEqual(two_price_plan(book, (), requests, on=2, off=9), [()] * 2)
        self.assertEqual(two_price_plan(book, (), requests, on=0, off=9), [(1,)] * 2)
        self.assertEqual(two_price_plan(book, (), requests, on=1, off=1), [(1,), ()])
        self.assertEqual(two_price_plan(book, (1,), requests, on=50, off=2), [(1,), ()])
        self.assertEqual(two_price_plan(book, (1,), requests, on=50, off=3), [(1,)] * 2)
        self.assertEqual(two_price_plan(book, (1,), requests, look=2, on=50, off=3), [(1,), ()])
        self.assertEqual(two_price_plan(book, (), [], on=1, off=0), [])

    def test_against_all_plans(self):
        refusals = 0
        for seed in range(250):
            book, versions, home, requests, source = random_case(self, seed)
            look, on, off = source.randrange(1, 4), source.randrange(7), source.randrange(7)
            pairs = [(n, other) for n in book for other in book.conflicting(n) if n < other]
            if on < off and pairs:
                refusals += 1
                refused(self, CheapOn, min(pairs), two_price_plan, book, home, requests, look=look, on=on, off=off)
                continue
            plan = same_arguments(self, two_price_plan, book, home, requests, look=look, on=on, off=off)
            self.assertEqual([entry for entry in plan if entry not in versions], [])
            self.assertEqual(two_price_cost(book, home, requests, plan, look=look, on=on, off=off),
                             least_cost(versions, home, requests, two_ways(book, on, off), looking(book, look)))
        self.assertGreater(refusals, 40)

    def test_the_cost_by_words(self):
        for seed in range(60):
            book, versions, home, requests, source = random_case(self, seed)
            plan = [source.choice(versions) for _ in requests]
            move, serve = two_ways(book, 3, 8), looking(book, 2)
            expected = sum(move(*pair) for pair in itertools.pairwise([home] + plan))
            expected += sum(serve(request, entry) for request, entry in zip(requests, plan))
            self.assertEqual(two_price_cost(book, home, requests, plan, look=2, on=3, off=8), expected)

    def test_cheap_on(self):
        book = chain_book()
        refused(self, CheapOn, (1, 3), two_price_plan, book, (), [], on=0, off=1)
        self.assertEqual(two_price_plan(book, (), [], on=1, off=1), [])
        book = wide_book(4)
        self.assertEqual(two_price_plan(book, (), [((1,), 5)], on=0, off=1), [(1,)])
        book.make_patch([(2, 9)])
        book.make_patch([(1, 9)])
        refused(self, CheapOn, (2, 6), two_price_plan, book, (), [], on=4, off=5)

    def test_errors(self):
        self.check_common_errors(two_price_plan, look=0, on=-1, off=-1)
        self.check_common_errors(two_price_plan, look=1, on=1, off=2)
        book = chain_book()
        for bad in NO_VERSIONS:
            refused(self, NotAVersion, (bad,), two_price_cost, book, bad, [((2,), 1)], [], look=0, on=-1, off=-1)
            refused(self, BadRequest, (0,), two_price_cost, book, (), [(bad, 1)], [bad], look=0, on=-1, off=-1)
            refused(self, BadPlan, (0,), two_price_cost, book, (), [((), 1)], [bad], look=0, on=-1, off=-1)
        refused(self, BadPlan, (1,), two_price_cost, book, (), [((), 1)], [()] * 2, look=0, on=-1, off=-1)
        cost = ([((), 1)], [()])
        for call, lists in ((two_price_cost, cost), (two_price_plan, cost[:1])):
            for look in (0, -1):
                refused(self, BadPrice, (look,), call, book, (), *lists, look=look, on=-3, off=-2)
            refused(self, BadPrice, (-3,), call, book, (), *lists, on=-3, off=-2)
            refused(self, BadPrice, (-2,), call, book, (), *lists, on=-0, off=-2)
            refused(self, BadPrice, (-3,), call, Book([0]), (), [], *[[] for _ in lists[1:]], on=-3)


class VersionOfClashTest(unittest.TestCase):

    def test_homes_are_the_least_versions(self):
        book = chain_book()
        book.make_patch([(0, 5)], requires=(3, 4))
        home, _ = clash_requests(book, 5, 2, toggle=[0, 0, 0, 0, 4])
        self.assertEqual(home, version_of(book, (5,)))
        _, requests = clash_requests(book, 5, 2, toggle=[0, 4, 0, 0, 0])
        self.assertEqual([version for version, _ in requests], [(1, 2), (3, 4, 5), (1, 2)])


if __name__ == "__main__":
    unittest.main()

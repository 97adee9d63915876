"""Points 54 to 57: the keeper."""

import random
import unittest

from livecopy.book import Book
from livecopy.ends import EndTable
from livecopy.errors import (
    BadBound, BadCount, BadPrice, BadRequest, BadState, BoundClash, NoClash, NotAVersion, NotRelated, TooMany,
    UnknownPatch)
from livecopy.keeper import Keeper, bound_clash, bound_requests, side_sets
from livecopy.plans import patch_bound
from livecopy.versions import version_of
from livecopy.ways import between
from tests.support import (
    EXAMPLE_REQUESTS, NO_VERSIONS, chain_book, example_book, random_book, random_case, refused, same_arguments,
    wide_book)

GREAT = 10 ** 30


class ModelKeeper:
    """A keeper by the words of point 55, one single request after another, for any bounds."""

    def __init__(self, book, home, bounds, look=1, toggle=1):
        self.book, self.bounds, self.look, self.toggle = book, bounds, look, toggle
        self.home = set(home)
        self.counters = {n: bounds[n - 1] if n in home else 0 for n in book}
        self.cost = 0

    def request(self, version, count):
        before = self.cost
        for _ in range(count):
            self.cost += self.look * self.size(self.home ^ set(version))
            for n in self.book:
                step = 1 if n in version else -1
                self.counters[n] = min(self.bounds[n - 1], max(0, self.counters[n] + step))
            leaving = {n for n in self.home if self.counters[n] == 0}
            entering = {n for n in self.book if n not in self.home and self.counters[n] == self.bounds[n - 1]}
            self.cost += self.toggle * self.size(leaving | entering)
            self.home = (self.home - leaving) | entering
        return self.cost - before

    def size(self, numbers):
        return sum(self.book.size_of(n) for n in numbers)

    def state(self):
        return tuple(sorted(self.home)), tuple(self.counters[n] for n in self.book), self.cost


def grouped_bounds(book, source):
    """A list of bounds, with equal ones for related patches."""
    bounds = [source.randrange(1, 6) for _ in book]
    changed = True
    while changed:
        changed = False
        for first in book:
            for second in book:
                if book.relation(first, second) != "independent" and bounds[first - 1] > bounds[second - 1]:
                    bounds[first - 1] = bounds[second - 1]
                    changed = True
    return bounds


def least_clash(book, bounds):
    for first in book:
        for second in book:
            if first < second and book.relation(first, second) != "independent":
                if bounds[first - 1] != bounds[second - 1]:
                    return first, second
    return None


class KeeperCase(unittest.TestCase):

    def check_state(self, book, keeper, bounds):
        """What point 55 says at any time."""
        home, counters, cost = keeper.state()
        self.assertEqual((keeper.home, keeper.counters(), keeper.cost), (home, list(counters), cost))
        self.assertIn(home, book)
        for number, counter, bound in zip(book, counters, bounds):
            self.assertTrue(1 <= counter <= bound if number in home else 0 <= counter < bound)
            self.assertTrue(all(counter <= counters[n - 1] for n in book.required(number)))
            self.assertTrue(all(counter + counters[n - 1] <= bound for n in book.conflicting(number)))


class RequestTest(KeeperCase):

    def test_a_new_keeper(self):
        keeper = same_arguments(self, Keeper, chain_book(), (1, 4), bound=[3, 3, 3, 7])
        self.assertEqual((keeper.home, keeper.cost, keeper.counters()), ((1, 4), 0, [3, 0, 0, 7]))
        self.assertEqual(keeper.state(), ((1, 4), (3, 0, 0, 7), 0))
        self.assertEqual(Keeper(chain_book(), (3,)).counters(), [0, 0, 2, 0])
        self.assertEqual(Keeper(Book([0]), (), bound=[]).state(), ((), (), 0))

    def test_the_worked_example(self):
        keeper = Keeper(example_book(), (), bound=2)
        self.assertEqual([keeper.request(*request) for request in EXAMPLE_REQUESTS], [6, 3, 0])
        self.assertEqual((keeper.counters(), keeper.home, keeper.cost), ([2, 2, 0], (1, 2), 9))

    def test_single_steps(self):
        keeper = Keeper(wide_book(1), (), bound=2, look=10, toggle=3)
        steps = []
        for version in ((1,), (), (1,), (1,), (), (1,), (), (), ()):
            steps.append((keeper.request(version), keeper.home, keeper.counters()))
        self.assertEqual(steps, [
            (10, (), [1]), (0, (), [0]), (10, (), [1]), (13, (1,), [2]), (10, (1,), [1]), (0, (1,), [2]),
            (10, (1,), [1]), (13, (), [0]), (0, (), [0])])
        self.assertEqual(keeper.cost, 66)

    def test_a_bound_of_1_follows_each_request(self):
        keeper = Keeper(chain_book(), (), bound=1)
        self.assertEqual((keeper.request((1, 2)), keeper.home), (6, (1, 2)))
        self.assertEqual((keeper.request((3,), 5), keeper.home), (16, (3,)))

    def test_by_words(self):
        for seed in range(150):
            book, versions, home, requests, source = random_case(self, seed, most=12)
            bounds = [source.randrange(1, 5)] * len(book) if seed % 2 else grouped_bounds(book, source)
            bound = bounds[0] if seed % 2 and bounds else bounds
            look, toggle = source.randrange(1, 4), source.randrange(5)
            keeper = Keeper(book, home, bound=bound, look=look, toggle=toggle)
            model = ModelKeeper(book, home, bounds, look, toggle)
            for version, count in requests:
                former = keeper.home
                cost = same_arguments(self, keeper.request, version, count)
                self.assertEqual(cost, model.request(version, count))
                self.assertEqual(keeper.state(), model.state())
                self.check_state(book, keeper, bounds)
                self.assertTrue(between(book, former, version, keeper.home))

    def test_great_counts_and_bounds(self):
        keeper = Keeper(wide_book(2), (2,), bound=GREAT, look=2, toggle=5)
        self.assertEqual(keeper.request((1,), GREAT - 1), 4 * (GREAT - 1))
        self.assertEqual(keeper.state(), ((2,), (GREAT - 1, 1), 4 * (GREAT - 1)))
        self.assertEqual(keeper.request((1,), 10 * GREAT), 4 + 10)
        self.assertEqual(keeper.state(), ((1,), (GREAT, 0), 4 * GREAT + 10))
        self.assertEqual(keeper.request((1,), 10 * GREAT), 0)
        keeper = Keeper(wide_book(2), (), bound=[3, GREAT])
        self.assertEqual(keeper.request((1, 2), GREAT), 3 + GREAT + 2)
        self.assertEqual(keeper.home, (1, 2))

    def test_great_counts_are_many_single_requests(self):
        for seed in range(40):
            book, versions, home, requests, source = random_case(self, seed, most=8)
            one, many = Keeper(book, home, bound=4), Keeper(book, home, bound=4)
            for version, count in requests:
                cost = sum(many.request(version) for _ in range(count))
                self.assertEqual(one.request(version, count), cost)
                self.assertEqual(one.state(), many.state())

    def test_a_book_that_grows(self):
        for seed in range(40):
            book, versions, home, requests, source = random_case(self, seed)
            keeper = Keeper(book, home, bound=3)
            for version, count in requests[:3]:
                keeper.request(version, count)
            before = keeper.state()
            new = book.make_patch([(0, 5), (1, 5)], size=7)
            self.assertEqual(keeper.state(), (before[0], before[1] + (0,), before[2]))
            afresh = Keeper(book, home, bound=3)
            for version, count in requests[:3]:
                afresh.request(version, count)
            for version, count in requests[3:] + [((new,), 2), ((), 1), ((new,), 4)]:
                self.assertEqual(keeper.request(version, count), afresh.request(version, count))
                self.assertEqual(keeper.state(), afresh.state())
                self.check_state(book, keeper, [3] * len(book))
            self.assertEqual(keeper.home, (new,))

    def test_the_bounds_are_copied(self):
        bounds = [2, 2, 2, 5]
        keeper = Keeper(chain_book(), (), bound=bounds)
        bounds[3] = 1
        bounds.append(0)
        keeper.request((4,), 4)
        self.assertEqual((keeper.home, keeper.counters()), ((), [0, 0, 0, 4]))

    def test_what_is_returned_is_new(self):
        keeper = Keeper(chain_book(), (1,))
        keeper.counters().clear()
        keeper.counters()[0] = 9
        self.assertEqual(keeper.state(), ((1,), (2, 0, 0, 0), 0))

    def test_errors(self):
        book = chain_book()
        for bad in NO_VERSIONS:
            refused(self, NotAVersion, (bad,), Keeper, book, bad, bound=0, look=0, toggle=-1)
        for bound in (0, -1, -10 ** 40):
            refused(self, BadBound, (bound,), Keeper, book, (), bound=bound, look=0, toggle=-1)
        refused(self, BadBound, (0,), Keeper, Book([0]), (), bound=0)
        for bounds in ([], [0, 1, 1], [1, 1, 1, 1, 0]):
            refused(self, BadBound, (len(bounds),), Keeper, book, (), bound=bounds, look=0, toggle=-1)
        refused(self, BadBound, (-3,), Keeper, book, (), bound=[1, 2, -3, 0], look=0, toggle=-1)
        refused(self, BoundClash, (1, 2), Keeper, book, (), bound=[1, 2, 3, 4], look=0, toggle=-1)
        refused(self, BoundClash, (1, 3), Keeper, book, (), bound=[2, 2, 3, 4], look=0, toggle=-1)
        for look in (0, -1):
            refused(self, BadPrice, (look,), Keeper, book, (), look=look, toggle=-2)
        refused(self, BadPrice, (-2,), Keeper, book, (), toggle=-2)
        keeper = Keeper(book, (1,))
        for bad in NO_VERSIONS:
            refused(self, NotAVersion, (bad,), keeper.request, bad, 0)
        for count in (0, -1, -10 ** 40):
            refused(self, BadCount, (count,), keeper.request, (3,), count)
        self.assertEqual(keeper.state(), ((1,), (2, 0, 0, 0), 0))


class PromiseTest(KeeperCase):

    def test_what_it_may_cost(self):
        for seed in range(120):
            book, versions, home, requests, source = random_case(self, seed, most=12)
            bound, look, toggle = source.randrange(1, 6), source.randrange(1, 4), source.randrange(8)
            keeper = Keeper(book, home, bound=bound, look=look, toggle=toggle)
            for many, (version, count) in enumerate(requests, start=1):
                keeper.request(version, count)
                least = patch_bound(book, home, requests[:many], look=look, toggle=toggle)
                self.assertLessEqual(keeper.cost * min(bound * look, 2 * toggle), 2 * (bound * look + toggle) * least)

    def test_where_both_sides_are_equal(self):
        book = chain_book()
        for bound, look, toggle in ((1, 1, 1), (2, 1, 1), (3, 2, 5), (5, 1, 2), (4, 3, 0)):
            keeper = Keeper(book, (), bound=bound, look=look, toggle=toggle)
            requests = []
            for _ in range(3):
                requests += [((1, 2, 4), bound), ((), bound)]
                keeper.request((1, 2, 4), bound)
                keeper.request((), bound)
                least = patch_bound(book, (), requests, look=look, toggle=toggle)
                self.assertEqual(keeper.cost * min(bound * look, 2 * toggle), 2 * (bound * look + toggle) * least)

    def test_counters_beside_an_end_table(self):
        for seed in range(60):
            book, versions, home, requests, source = random_case(self, seed, most=12)
            look, half = source.randrange(1, 4), source.randrange(1, 4)
            bound, toggle = 2 * half, half * look
            keeper = Keeper(book, home, bound=bound, look=look, toggle=toggle)
            table = EndTable(book, home, look=look, toggle=toggle)
            for version, count in requests:
                keeper.request(version, count)
                table.request(version, count)
                self.assertEqual([counter * look for counter in keeper.counters()],
                                 [toggle + counter for counter in table.counters()])


class StateTest(KeeperCase):

    def test_all_later_answers(self):
        for seed in range(80):
            book, versions, home, requests, source = random_case(self, seed, most=8)
            bound = source.randrange(1, 5) if seed % 2 else grouped_bounds(book, source)
            named = {"bound": bound, "look": source.randrange(1, 4), "toggle": source.randrange(7)}
            keeper = Keeper(book, home, **named)
            for version, count in requests[:3]:
                keeper.request(version, count)
            other_book, _, _, _, _ = random_case(self, seed, most=8)
            resumed = same_arguments(self, Keeper.resumed, other_book, keeper.state(), **named)
            self.assertIsInstance(resumed, Keeper)
            self.assertEqual(resumed.state(), keeper.state())
            for version, count in requests[3:]:
                self.assertEqual(resumed.request(version, count), keeper.request(version, count))
                self.assertEqual((resumed.home, resumed.state()), (keeper.home, keeper.state()))

    def test_a_state_that_no_keeper_had(self):
        keeper = Keeper.resumed(chain_book(), ((4,), (1, 1, 1, 1), 0), bound=2)
        self.assertEqual((keeper.home, keeper.counters(), keeper.cost), ((4,), [1, 1, 1, 1], 0))
        self.assertEqual((keeper.request((3,)), keeper.home), (6 + 6, (3,)))

    def test_the_keepers_do_not_change_each_other(self):
        book = chain_book()
        keeper = Keeper(book, (1,))
        state = keeper.state()
        resumed = Keeper.resumed(book, state)
        resumed.request((3,), 5)
        self.assertEqual((keeper.state(), state), (((1,), (2, 0, 0, 0), 0),) * 2)
        book.make_patch([(1, 5)])
        self.assertEqual(resumed.counters(), [0, 0, 2, 0, 0])
        refused(self, BadState, (0,), Keeper.resumed, book, state)

    def test_bounds_and_prices_come_first(self):
        book = chain_book()
        state = ((2,), (), -1)
        refused(self, BadBound, (0,), Keeper.resumed, book, state, bound=0, look=0, toggle=-1)
        refused(self, BadBound, (1,), Keeper.resumed, book, state, bound=[0], look=0, toggle=-1)
        refused(self, BoundClash, (1, 2), Keeper.resumed, book, state, bound=[1, 2, 3, 4], look=0, toggle=-1)
        refused(self, BadPrice, (0,), Keeper.resumed, book, state, look=0, toggle=-1)
        refused(self, BadPrice, (-1,), Keeper.resumed, book, state, toggle=-1)

    def test_place_0(self):
        book = chain_book()
        for bad in NO_VERSIONS:
            refused(self, BadState, (0,), Keeper.resumed, book, (bad, (9, 9, 9, 9), 0))
        for state in (((), (0,) * 4, -1), ((), (0,) * 3, 0), ((), (0,) * 5, 0), ((), (9,) * 4, -10 ** 40)):
            refused(self, BadState, (0,), Keeper.resumed, book, state)
        self.assertEqual(Keeper.resumed(Book([0]), ((), (), 7)).cost, 7)
        refused(self, BadState, (0,), Keeper.resumed, Book([0]), ((), (0,), 7))

    def test_places_of_patches(self):
        book = chain_book()
        for home, counters, place in (
            ((), (-1, 0, 0, 0), 1), ((), (3, 0, 0, 9), 1), ((1,), (4, 0, 0, 0), 1), ((1,), (0, 0, 0, 9), 1),
            ((), (0, 0, 0, 3), 4), ((4,), (1, 1, 1, 0), 4), ((4,), (1, 1, 1, -1), 4), ((4,), (0, 0, 0, 4), 4),
            ((), (1, 2, 0, 9), 2), ((1,), (1, 2, 0, 0), 2), ((), (2, 1, 2, 0), 3), ((), (2, 2, 2, 9), 3),
            ((3,), (1, 1, 3, 0), 3), ((), (10 ** 40, 0, 0, 0), 1), ((1, 2), (3, 0, 0, 0), 2),
        ):
            refused(self, BadState, (place,), Keeper.resumed, book, (home, counters, 5), bound=3)
        for home, counters in (
            ((), (2, 2, 1, 2)), ((1,), (1, 1, 2, 0)), ((1, 2), (3, 3, 0, 2)), ((3, 4), (2, 1, 1, 3)), ((), (0,) * 4),
        ):
            self.assertEqual(Keeper.resumed(book, (home, counters, 5), bound=3).state(), (home, counters, 5))

    def test_lists_of_bounds(self):
        book = chain_book()
        self.assertEqual(Keeper.resumed(book, ((), (0, 0, 0, 8), 0), bound=[3, 3, 3, 9]).counters(), [0, 0, 0, 8])
        refused(self, BadState, (4,), Keeper.resumed, book, ((), (0, 0, 0, 9), 0), bound=[3, 3, 3, 9])
        refused(self, BadState, (3,), Keeper.resumed, book, ((), (2, 0, 2, 9), 0), bound=[3, 3, 3, 9])
        refused(self, BadState, (1,), Keeper.resumed, book, ((), (3, 0, 2, 9), 0), bound=[3, 3, 3, 9])

    def test_by_words(self):
        for seed in range(80):
            book, versions, home, _, source = random_case(self, seed, attempts=4)
            bound = source.randrange(1, 4)
            for _ in range(10):
                counters = tuple(source.randint(0, bound) for _ in book)
                expected = [n for n in book if self.is_bad(book, home, counters, n, bound)]
                state = (home, counters, 4)
                if expected:
                    refused(self, BadState, (expected[0],), Keeper.resumed, book, state, bound=bound)
                else:
                    self.assertEqual(Keeper.resumed(book, state, bound=bound).state(), state)

    def is_bad(self, book, home, counters, number, bound):
        counter = counters[number - 1]
        return (
            counter == (0 if number in home else bound)
            or any(counter > counters[other - 1] for other in book.required(number))
            or any(counter + counters[other - 1] > bound for other in book.conflicting(number) if other < number))


class BoundsTest(KeeperCase):

    def test_clashes(self):
        book = chain_book()
        for bound in (1, GREAT, [5] * 4, [2, 2, 2, 9]):
            self.assertIsNone(same_arguments(self, bound_clash, book, bound))
        self.assertIsNone(bound_clash(Book([0]), []))
        self.assertIsNone(bound_clash(wide_book(3), [1, 2, 3]))
        self.assertEqual(same_arguments(self, bound_clash, book, [1, 2, 3, 4]), (1, 2))
        self.assertEqual(bound_clash(book, [2, 2, 3, 4]), (1, 3))
        book.make_patch([(2, 5)], requires=(2, 4))
        self.assertEqual(bound_clash(book, [2, 2, 2, 9, 2]), (4, 5))
        for seed in range(60):
            book, _ = random_book(self, seed)
            source = random.Random(seed)
            bounds = [source.randrange(1, 3) for _ in book]
            self.assertEqual(bound_clash(book, bounds), least_clash(book, bounds))
            self.assertIsNone(bound_clash(book, grouped_bounds(book, source)))

    def test_bad_bounds(self):
        book = chain_book()
        calls = (bound_clash, (book,)), (side_sets, (book, (), [((), 400)])), (bound_requests, (book, 1, 2))
        for call, ahead in calls:
            for bound in (0, -1, -10 ** 40):
                refused(self, BadBound, (bound,), call, *ahead, bound)
            refused(self, BadBound, (-3,), call, *ahead, [1, 2, -3, 0])
            refused(self, BadBound, (0,), call, *ahead, [1, 2, 0, -3])
            for bounds in ([], [0, 1, 1], [1, 1, 1, 1, 0]):
                refused(self, BadBound, (len(bounds),), call, *ahead, bounds)


class SideSetsTest(KeeperCase):

    def test_sets(self):
        book = wide_book(2)
        self.assertEqual(same_arguments(self, side_sets, book, (2,), [((1,), 3), ((1, 2), 2)], [3, 2]),
                         [(2,), (), (1,), (1,), (1, 2)])
        self.assertEqual(side_sets(book, (2,), [((1,), 3)], 1), [(1,)] * 3)
        self.assertEqual(side_sets(book, (1,), [], 1), [])

    def test_sets_that_are_no_versions(self):
        book = chain_book()
        self.assertEqual(side_sets(book, (), [((1, 2), 2)], [2, 1, 1, 1]), [(2,), (1, 2)])
        self.assertEqual(side_sets(book, (3,), [((1,), 2)], [1, 1, 3, 1]), [(1, 3), (1, 3)])

    def test_by_words(self):
        for seed in range(80):
            book, versions, home, requests, source = random_case(self, seed)
            bounds = [source.randrange(1, 5) for _ in book]
            model = ModelKeeper(book, home, bounds)
            expected = []
            for version, count in requests:
                for _ in range(count):
                    model.request(version, 1)
                    expected.append(tuple(sorted(model.home)))
            self.assertEqual(same_arguments(self, side_sets, book, home, requests, bounds), expected)

    def test_one_bound_gives_the_homes_of_the_keeper(self):
        for seed in range(30):
            book, versions, home, requests, source = random_case(self, seed)
            keeper = Keeper(book, home, bound=3)
            single = [version for version, count in requests for _ in range(count)]
            homes = []
            for version in single:
                keeper.request(version)
                homes.append(keeper.home)
            self.assertEqual(side_sets(book, home, requests, 3), homes)

    def test_errors(self):
        book = chain_book()
        for bad in NO_VERSIONS:
            refused(self, NotAVersion, (bad,), side_sets, book, bad, [((2,), 500)], 0)
            refused(self, BadRequest, (1,), side_sets, book, (), [((), 500), (bad, 1)], 0)
        for count in (0, -1):
            refused(self, BadRequest, (1,), side_sets, book, (), [((), 500), ((), count)], 0)
        for requests in ([((), 401)], [((), 10 ** 30)], [((1,), 400), ((), 1)], [((), 1)] * 401):
            refused(self, TooMany, (400,), side_sets, book, (), requests, 0)
        self.assertEqual(side_sets(book, (), [((), 1)] * 399 + [((4,), 1)], 1)[398:], [(), (4,)])


class BoundRequestsTest(KeeperCase):

    def test_requests(self):
        book = chain_book()
        for pair in ((1, 2), (2, 1)):
            self.assertEqual(same_arguments(self, bound_requests, book, *pair, [5, 3, 5, 5]), [((1, 2), 3)])
            self.assertEqual(bound_requests(book, *pair, [3, 5, 5, 5]), [((1, 2), 5), ((), 3)])
        for pair in ((1, 3), (3, 1)):
            self.assertEqual(bound_requests(book, *pair, [5, 1, 4, 1]), [((1,), 5), ((3,), 4)])
            self.assertEqual(bound_requests(book, *pair, [4, 1, 5, 1]), [((3,), 5), ((1,), 4)])
        for pair in ((2, 3), (3, 2)):
            self.assertEqual(bound_requests(book, *pair, [1, 2, 3, 4]), [((3,), 3), ((1, 2), 2)])

    def test_they_lead_to_no_version(self):
        found = 0
        for seed in range(120):
            book, _ = random_book(self, seed)
            source = random.Random(seed)
            bounds = [source.randrange(1, 6) for _ in book]
            clash = bound_clash(book, bounds)
            if clash is None:
                continue
            found += 1
            requests = bound_requests(book, *clash, bounds)
            self.assertEqual(requests, bound_requests(book, *clash[::-1], bounds))
            self.assertTrue(any(sides not in book for sides in side_sets(book, (), requests, bounds)))
        self.assertGreater(found, 60)

    def test_requests_are_for_the_least_versions(self):
        book = chain_book()
        book.make_patch([(0, 5)], requires=(3, 4))
        self.assertEqual(bound_requests(book, 2, 5, [1, 7, 1, 1, 3]),
                         [(version_of(book, (2,)), 7), (version_of(book, (5,)), 3)])

    def test_errors(self):
        book = chain_book()
        for number in (0, -1, 5, 10 ** 40, -10 ** 40):
            refused(self, UnknownPatch, (number,), bound_requests, book, number, 77, 0)
            refused(self, UnknownPatch, (number,), bound_requests, book, 1, number, 0)
        for pair in ((1, 1), (4, 4), (1, 4), (4, 3)):
            refused(self, NotRelated, pair, bound_requests, book, *pair, 0)
        for pair in ((1, 2), (3, 1)):
            refused(self, BadBound, (0,), bound_requests, book, *pair, 0)
            refused(self, BadBound, (3,), bound_requests, book, *pair, [1, 2, 0])
            refused(self, NoClash, pair, bound_requests, book, *pair, 7)
            refused(self, NoClash, pair, bound_requests, book, *pair, [3, 3, 3, 9])


class LimitsTest(KeeperCase):

    def test_a_keeper_at_the_limits(self):
        book = wide_book(200)
        source = random.Random(54)
        keeper = Keeper(book, (), bound=10 ** 12, look=10 ** 12, toggle=10 ** 12)
        for _ in range(400):
            keeper.request(tuple(n for n in book if source.random() < 0.5), source.randrange(1, 10 ** 13))
        self.check_state(book, keeper, [10 ** 12] * 200)
        self.assertEqual(len(side_sets(book, (), [(tuple(book), 1)] * 400, 399)), 400)


if __name__ == "__main__":
    unittest.main()

"""Points 52 and 53: living versions."""

import itertools
import random
import unittest

from livecopy.book import Book
from livecopy.collect import living_range
from livecopy.errors import BadEvent, BadPlan, BadPrice, NotAVersion, NoVersions
from livecopy.living import living_cost, living_plan, living_ranges
from livecopy.plans import best_plan
from livecopy.requests import plan_cost
from tests.support import (
    NO_VERSIONS, chain_book, least_cost, looking, random_case, refused, same_arguments, toggling, wide_book)

GREAT = 10 ** 60


def random_events(versions, living, source, many):
    """Return a list of possible events, and the list of what is living behind each of them."""
    alive = list(living)
    events, behind = [], []
    for _ in range(many):
        kind = source.choice(("make", "drop", "read", "read"))
        if kind == "drop" and len(alive) > 1:
            version = source.choice(alive)
            alive.remove(version)
            events.append((kind, version))
        elif kind == "make":
            version = source.choice(versions)
            alive.append(version)
            events.append((kind, version))
        else:
            events.append(("read", source.choice(alive), source.randrange(1, 6)))
        behind.append(list(alive))
    return events, behind


def serving(book, look):
    """What an event costs; an ask is a pair of an event and its range."""
    looks = looking(book, look)

    def cost(ask, entry):
        event, (common, some) = ask
        if not set(common) <= set(entry) <= set(some):
            return GREAT
        return looks(event[1:], entry) if event[0] == "read" else 0
    return cost


class RangesTest(unittest.TestCase):

    def test_ranges(self):
        book = chain_book()
        events = [("read", (1,), 2), ("make", (1, 2)), ("make", (3,)), ("drop", (1,)), ("drop", (3,)), ("drop", (1,))]
        self.assertEqual(same_arguments(self, living_ranges, book, [(1,), (1,)], events), [
            ((1,), (1,)), ((1,), (1, 2)), ((), (1, 2, 3)), ((), (1, 2, 3)), ((1,), (1, 2)), ((1, 2), (1, 2))])
        self.assertEqual(living_ranges(book, [()], []), [])
        self.assertEqual(living_ranges(Book([0]), [()], [("make", ()), ("drop", ())]), [((), ())] * 2)

    def test_a_version_may_occur_several_times(self):
        book = chain_book()
        events = [("drop", (3,)), ("read", (3,), 1), ("make", (3,)), ("drop", (3,)), ("drop", (3,))]
        self.assertEqual(living_ranges(book, [(3,), (1,), (3,)], events), [((), (1, 3))] * 4 + [((1,), (1,))])

    def test_by_words(self):
        for seed in range(80):
            book, versions, _, _, source = random_case(self, seed)
            living = [source.choice(versions) for _ in range(source.randrange(1, 4))]
            events, behind = random_events(versions, living, source, 10)
            self.assertEqual(same_arguments(self, living_ranges, book, living, events),
                             [living_range(book, alive) for alive in behind])

    def test_the_list_is_new(self):
        book = chain_book()
        events = [("make", (1,))]
        living_ranges(book, [()], events).clear()
        self.assertEqual(living_ranges(book, [()], events), [((), (1,))])


class CostTest(unittest.TestCase):

    def test_costs(self):
        book = chain_book()
        events = [("make", (1, 2)), ("read", (1, 2), 3), ("drop", (1, 2)), ("read", (3,), 2)]
        plan = [(1,), (3,), (), (3,)]
        # Sizes: 1, 2, 5, 1. Toggles: 1, 6, 5, 5. Looks: 8 (3 times), then none.
        self.assertEqual(same_arguments(self, living_cost, book, (), [(3,), ()], events, plan), 17 + 24)
        self.assertEqual(living_cost(book, (4,), [(3,), ()], events, plan, look=10, toggle=2), 36 + 240)
        self.assertEqual(living_cost(book, (1,), [(3,), ()], events, plan, toggle=0), 24)
        self.assertEqual(living_cost(book, (1,), [(3,)], [], []), 0)

    def test_making_and_dropping_cost_nothing(self):
        book = chain_book()
        events = [("make", (1,)), ("drop", ()), ("drop", (1,))]
        self.assertEqual(living_cost(book, (), [(), (3,)], events, [(), (), (3,)]), 5)

    def test_bad_entries(self):
        book = chain_book()
        living = [(1,), (1, 2)]
        events = [("read", (1,), 1), ("make", (1, 4)), ("drop", (1, 2))]
        self.assertEqual(living_cost(book, (), living, events, [(1, 2), (1, 2, 4), (1, 4)]), 3 + 2 + 1 + 2)
        for bad in NO_VERSIONS + ((), (3,), (1, 4)):
            refused(self, BadPlan, (0,), living_cost, book, (), living, events, [bad, (2,), ()], look=0, toggle=-1)
        for bad in NO_VERSIONS + ((), (4,), (3, 4)):
            refused(self, BadPlan, (1,), living_cost, book, (), living, events, [(1,), bad, (2,)], look=0, toggle=-1)
        for bad in NO_VERSIONS + ((), (1, 2), (1, 2, 4)):
            refused(self, BadPlan, (2,), living_cost, book, (), living, events, [(1,), (1,), bad], look=0, toggle=-1)

    def test_the_length_comes_behind_the_entries(self):
        book = chain_book()
        events = [("read", (1,), 1), ("read", (1,), 1)]
        refused(self, BadPlan, (0,), living_cost, book, (), [(1,)], events, [], look=0)
        refused(self, BadPlan, (1,), living_cost, book, (), [(1,)], events, [(1,)], look=0)
        refused(self, BadPlan, (0,), living_cost, book, (), [(1,)], events, [()], look=0)
        refused(self, BadPlan, (2,), living_cost, book, (), [(1,)], events, [(1,)] * 3, look=0)
        # An entry behind the last event has no range.
        refused(self, BadPlan, (2,), living_cost, book, (), [(1,)], events, [(1,), (1,), (3,), ()], look=0)
        refused(self, BadPlan, (3,), living_cost, book, (), [(1,)], events, [(1,), (1,), (3,), (2,)], look=0)
        refused(self, BadPlan, (1,), living_cost, book, (), [(1,)], events, [(1,), (3,), (3,), (2,)], look=0)
        refused(self, BadPlan, (0,), living_cost, book, (), [(1,)], [], [(3,)], look=0)


class PlanTest(unittest.TestCase):

    def test_plans(self):
        book = wide_book(2)
        events = [("make", (1,)), ("read", (1,), 9), ("drop", (1,)), ("read", (), 1)]
        self.assertEqual(same_arguments(self, living_plan, book, (), [()], events), [(), (1,), (), ()])
        self.assertEqual(living_plan(book, (), [()], events, toggle=5), [()] * 4)
        self.assertEqual(living_plan(book, (), [()], events, toggle=4), [(), (1,), (), ()])
        self.assertEqual(living_plan(book, (), [()], events, look=2, toggle=5), [(), (1,), (), ()])
        self.assertEqual(living_plan(book, (1, 2), [()], events), [(1,), (1,), (), ()])
        self.assertEqual(living_plan(book, (1, 2), [(1, 2)], [("read", (1, 2), 1)]), [(1, 2)])
        self.assertEqual(living_plan(book, (1, 2), [()], []), [])
        self.assertEqual(living_plan(Book([0]), (), [()], [("make", ())], toggle=0), [()])

    def test_demands_go_ahead_of_all_votes(self):
        book = wide_book(1)
        # What the first reads want is not let behind the drop, however great the counts are.
        events = [("read", (1,), 10 ** 30), ("drop", (1,)), ("make", (1,)), ("read", (1,), 10 ** 30)]
        self.assertEqual(living_plan(book, (), [(), (1,)], events, look=10 ** 12, toggle=10 ** 12),
                         [(1,), (), (), (1,)])
        self.assertEqual(living_plan(book, (), [(), (1,)], events, look=1, toggle=10 ** 12), [(1,), (), (), (1,)])
        events = [("read", (1,), 1), ("drop", (1,)), ("make", (1,)), ("read", (1,), 1)]
        self.assertEqual(living_plan(book, (), [(), (1,)], events, toggle=10 ** 12), [()] * 4)
        events = [("drop", ()), ("make", ()), ("read", (), 1)]
        self.assertEqual(living_plan(book, (), [(), (1,)], events, toggle=10 ** 12), [(1,)] * 3)
        self.assertEqual(living_plan(book, (), [(), (1,)], events, toggle=0), [(1,), (), ()])

    def test_demands_go_ahead_of_all_toggles(self):
        book = wide_book(1)
        # Behind each drop one version is left: the empty one, then (1,), and so on.
        events = [("make", ()), ("drop", (1,)), ("make", (1,)), ("drop", ())] * 3
        for toggle in (0, 1, 2, 7, 10 ** 12):
            plan = living_plan(book, (1,), [(1,)], events, toggle=toggle)
            self.assertEqual(plan[1::2], [(), (1,)] * 3)
            self.assertEqual(living_cost(book, (1,), [(1,)], events, plan, toggle=toggle), 6 * toggle)

    def test_against_all_plans(self):
        for seed in range(200):
            book, versions, home, _, source = random_case(self, seed)
            living = [source.choice(versions) for _ in range(source.randrange(1, 4))]
            events, behind = random_events(versions, living, source, source.randrange(8))
            look, toggle = source.randrange(1, 4), source.randrange(8)
            plan = same_arguments(self, living_plan, book, home, living, events, look=look, toggle=toggle)
            ranges = [living_range(book, alive) for alive in behind]
            for entry, (common, some) in zip(plan, ranges):
                self.assertIn(entry, versions)
                self.assertTrue(set(common) <= set(entry) <= set(some))
            expected = least_cost(versions, home, list(zip(events, ranges)), toggling(book, [toggle] * len(book)),
                                  serving(book, look))
            cost = living_cost(book, home, living, events, plan, look=look, toggle=toggle)
            self.assertEqual((cost, len(plan)), (expected, len(events)))

    def test_every_other_plan_of_this_cost_contains_it(self):
        for seed in range(60):
            book, versions, home, _, source = random_case(self, seed, attempts=3)
            living = [source.choice(versions) for _ in range(2)]
            events, _ = random_events(versions, living, source, 3)
            best = living_plan(book, home, living, events, look=1, toggle=2)
            ranges = living_ranges(book, living, events)
            cost = living_cost(book, home, living, events, best, toggle=2)
            for plan in itertools.product(versions, repeat=3):
                inside = [set(common) <= set(entry) <= set(some) for entry, (common, some) in zip(plan, ranges)]
                if not all(inside) or living_cost(book, home, living, events, list(plan), toggle=2) > cost:
                    continue
                self.assertTrue(all(set(entry) <= set(other) for entry, other in zip(best, plan)))

    def test_reads_alone(self):
        for seed in range(60):
            book, versions, home, requests, source = random_case(self, seed)
            # Everything is living, but the range may still bar patches that are in no version.
            events = [("read", version, count) for version, count in requests]
            plan = living_plan(book, home, versions, events, look=2, toggle=3)
            self.assertEqual(plan, best_plan(book, home, requests, look=2, toggle=3))
            self.assertEqual(living_cost(book, home, versions, events, plan, look=2, toggle=3),
                             plan_cost(book, home, requests, plan, look=2, toggle=3))

    def test_a_list_at_the_limits(self):
        book = wide_book(200)
        source = random.Random(53)
        versions = [tuple(n for n in book if source.random() < 0.5) for _ in range(20)]
        events, _ = random_events(versions, versions, source, 400)
        plan = living_plan(book, (), versions, events, look=10 ** 12, toggle=10 ** 12)
        self.assertGreater(living_cost(book, (), versions, events, plan, look=10 ** 12, toggle=10 ** 12), 0)


class ErrorsTest(unittest.TestCase):

    def check(self, error, fields, home, living, events, ranges=True, **prices):
        book = chain_book()
        if ranges:
            refused(self, error, fields, living_ranges, book, living, events)
        refused(self, error, fields, living_plan, book, home, living, events, **prices)
        if error is BadPrice:
            refused(self, error, fields, living_cost, book, home, living, events, [()] * len(events), **prices)
        else:
            refused(self, error, fields, living_cost, book, home, living, events, [(2,)], **prices)

    def test_the_home_comes_first(self):
        for bad in NO_VERSIONS:
            self.check(NotAVersion, (bad,), bad, [], [("make", (2,))], ranges=False, look=0, toggle=-1)

    def test_the_living_versions(self):
        self.check(NoVersions, (), (), [], [("make", (2,))], look=0, toggle=-1)
        for bad in NO_VERSIONS:
            self.check(NotAVersion, (bad,), (), [(1,), bad, (77,)], [("make", (2,))], look=0, toggle=-1)

    def test_bad_events(self):
        bad_events = [("read", (), 0), ("read", (), -1), ("read", (1,), 1), ("read", (), -10 ** 40), ("drop", (1,))]
        for bad in NO_VERSIONS:
            bad_events += [("make", bad), ("drop", bad), ("read", bad, 1), ("read", bad, 0)]
        for bad in bad_events:
            self.check(BadEvent, (2,), (), [()], [("read", (), 1), ("make", (3,)), bad, ("drop", (2,))],
                       look=0, toggle=-1)

    def test_what_is_living_at_that_moment(self):
        made = ("make", (1,))
        for events, index in (
            ([("drop", (1,))], 0), ([("drop", ())], 0), ([made, ("drop", (1,)), ("drop", (1,))], 2),
            ([made, ("drop", (1,)), ("read", (1,), 1)], 2), ([made, ("drop", ()), ("drop", (1,))], 2),
            ([made, made, ("drop", (1,)), ("drop", ()), ("read", (1,), 1), ("read", (), 1)], 5),
            ([made, made, ("drop", (1,)), ("drop", (1,)), ("drop", ())], 4),
            ([("read", (1,), 1), made], 0),
        ):
            self.check(BadEvent, (index,), (), [()], events, look=0, toggle=-1)

    def test_bad_prices(self):
        events = [("read", (), 1)]
        for look in (0, -1, -10 ** 12):
            self.check(BadPrice, (look,), (), [()], events, ranges=False, look=look, toggle=-2)
        self.check(BadPrice, (-2,), (), [()], events, ranges=False, toggle=-2)


if __name__ == "__main__":
    unittest.main()

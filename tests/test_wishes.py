"""Points 35 and 36: wishes."""

import itertools
import random
import unittest

from livecopy.book import Book
from livecopy.errors import BadCount, BadPlan, BadPrice, BadWish, Conflict, NotAVersion, UnknownPatch, WishClash
from livecopy.plans import best_plan
from livecopy.requests import plan_cost
from livecopy.wishes import best_wish_plan, close_wish, wish_cost, wish_of
from tests.support import (
    NO_VERSIONS, chain_book, least_cost, random_book, random_case, refused, same_arguments, toggling, wide_book)

UNKNOWN = (0, -1, -4, 5, 10 ** 40, -10 ** 40)


def closed_by_words(model, wanted, unwanted):
    """The two sets of point 35."""
    first = model.closure(wanted)
    barred = set(unwanted).union(*[model.conflicting(number) for number in first])
    return first, barred | {number for number in model.numbers() if model.requires[number] & barred}


def serving(book, look):
    """What a wish costs."""
    def cost(wish, entry):
        wanted, unwanted, count = wish
        missed = [n for n in wanted if n not in entry] + [n for n in unwanted if n in entry]
        return look * count * sum(book.size_of(n) for n in missed)
    return cost


class CloseWishTest(unittest.TestCase):

    def test_what_follows(self):
        book = chain_book()
        self.assertEqual(same_arguments(self, close_wish, book, (2, 2), ()), ((1, 2), (3,)))
        self.assertEqual(close_wish(book, (4,), (1, 1)), ((4,), (1, 2)))
        self.assertEqual(close_wish(book, (4, 3), ()), ((3, 4), (1, 2)))
        self.assertEqual(close_wish(book, (1,), (4, 2)), ((1,), (2, 3, 4)))
        self.assertEqual(close_wish(book, (), ()), ((), ()))
        self.assertEqual(close_wish(Book([0]), (), ()), ((), ()))

    def test_everything_that_requires_a_foe(self):
        book = chain_book()
        book.make_patch([(1, 5)], requires=(3,))
        book.make_patch([(2, 5)], requires=(5, 4))
        self.assertEqual(close_wish(book, (1,), ()), ((1,), (3, 5, 6)))
        self.assertEqual(close_wish(book, (6,), ()), ((3, 4, 5, 6), (1, 2)))

    def test_unknown_patches(self):
        book = chain_book()
        for number in UNKNOWN:
            refused(self, UnknownPatch, (number,), close_wish, book, (1, number, 77), (88,))
            refused(self, UnknownPatch, (number,), close_wish, book, (1, 3), (1, number, 77))

    def test_the_least_conflict(self):
        book = chain_book()
        refused(self, Conflict, (1, 3), close_wish, book, (3, 2), (1,))
        refused(self, Conflict, (1, 3), close_wish, book, (3, 4, 1), (3,))
        book = wide_book(4)
        book.make_patch([(3, 9)])
        book.make_patch([(1, 9)])
        refused(self, Conflict, (2, 6), close_wish, book, (6, 5, 4, 2), ())
        refused(self, Conflict, (4, 5), close_wish, book, (6, 5, 4), ())

    def test_the_least_patch_of_a_clash(self):
        book = chain_book()
        refused(self, WishClash, (1,), close_wish, book, (2,), (1,))
        refused(self, WishClash, (2,), close_wish, book, (2,), (2,))
        refused(self, WishClash, (2,), close_wish, book, (4, 2), (4, 2))
        refused(self, WishClash, (4,), close_wish, book, (4, 1), (4, 2))

    def test_against_all_versions(self):
        for seed in range(120):
            book, model = random_book(self, seed, attempts=6)
            source = random.Random(seed)
            versions = model.versions()
            for _ in range(12):
                wanted = tuple(source.choice(list(book)) for _ in range(source.randrange(4)))
                unwanted = tuple(source.choice(list(book)) for _ in range(source.randrange(4)))
                fitting = [v for v in versions if set(wanted) <= set(v) and not set(unwanted) & set(v)]
                first, second = closed_by_words(model, wanted, unwanted)
                pairs = [pair for pair in itertools.combinations(sorted(first), 2) if pair in model.pairs]
                if pairs:
                    self.assertEqual(fitting, [])
                    refused(self, Conflict, pairs[0], close_wish, book, wanted, unwanted)
                elif first & second:
                    self.assertEqual(fitting, [])
                    refused(self, WishClash, (min(first & second),), close_wish, book, wanted, unwanted)
                else:
                    self.assertNotEqual(fitting, [])
                    closed = (tuple(sorted(first)), tuple(sorted(second)))
                    self.assertEqual(close_wish(book, wanted, unwanted), closed)
                    self.assertEqual(close_wish(book, *closed), closed)


class WishOfTest(unittest.TestCase):

    def test_wishes(self):
        book = chain_book()
        self.assertEqual(same_arguments(self, wish_of, book, (1, 4), 3), ((1, 4), (2, 3), 3))
        self.assertEqual(wish_of(book, (), 10 ** 30), ((), (1, 2, 3, 4), 10 ** 30))
        self.assertEqual(wish_of(Book([0]), (), 1), ((), (), 1))

    def test_errors(self):
        book = chain_book()
        for bad in NO_VERSIONS:
            refused(self, NotAVersion, (bad,), wish_of, book, bad, 0)
        for count in (0, -1, -10 ** 40):
            refused(self, BadCount, (count,), wish_of, book, (1,), count)

    def test_they_are_closed(self):
        for seed in range(40):
            book, versions, home, _, _ = random_case(self, seed)
            wishes = [wish_of(book, version, 1) for version in versions]
            for wanted, unwanted, _ in wishes:
                self.assertEqual(close_wish(book, wanted, unwanted), (wanted, unwanted))
            self.assertEqual(wish_cost(book, home, wishes, versions, toggle=0), 0)


class WishCostTest(unittest.TestCase):

    def test_costs(self):
        book = chain_book()
        wishes = [((1, 2), (3,), 3), ((), (1, 2), 2), ((), (), 9)]
        plan = [(3, 4), (1, 2), (4,)]
        # Sizes: 1, 2, 5, 1. Looks: 8 (3 times), then 3 (2 times), then none. Toggles: 6, 9, 4.
        self.assertEqual(same_arguments(self, wish_cost, book, (), wishes, plan), 24 + 6 + 6 + 9 + 4)
        self.assertEqual(wish_cost(book, (), wishes, plan, look=10, toggle=0), 300)
        prices = [1, 10, 100, 1000]
        self.assertEqual(same_arguments(self, wish_cost, book, (4,), wishes, plan, toggle=prices),
                         30 + 500 + (500 + 1000 + 21) + (21 + 1000))
        self.assertEqual(wish_cost(book, (1,), [], []), 0)

    def test_wishes_of_versions_cost_what_requests_cost(self):
        for seed in range(40):
            book, versions, home, requests, source = random_case(self, seed)
            wishes = [wish_of(book, version, count) for version, count in requests]
            plan = [source.choice(versions) for _ in requests]
            prices = [source.randrange(5) for _ in book]
            self.assertEqual(wish_cost(book, home, wishes, plan, look=3, toggle=prices),
                             plan_cost(book, home, requests, plan, look=3, toggle=prices))


class BestWishPlanTest(unittest.TestCase):

    def test_what_does_not_matter_stays_as_it_is(self):
        book = chain_book()
        wishes = [((1, 2), (3,), 3), ((), (), 50), ((), (4,), 1)]
        self.assertEqual(same_arguments(self, best_wish_plan, book, (4,), wishes, toggle=2), [(1, 2, 4)] * 3)
        self.assertEqual(best_wish_plan(book, (4,), wishes), [(1, 2)] * 3)
        self.assertEqual(best_wish_plan(book, (4,), [((), (4,), 2), ((1,), (3,), 1)]), [(), ()])
        self.assertEqual(best_wish_plan(book, (4,), []), [])
        self.assertEqual(best_wish_plan(Book([0]), (), [((), (), 1)], look=5, toggle=0), [()])

    def test_the_least_rows_are_taken(self):
        book = wide_book(1)
        self.assertEqual(best_wish_plan(book, (), [((1,), (), 2)], toggle=2), [()])
        self.assertEqual(best_wish_plan(book, (), [((1,), (), 2)], look=2, toggle=3), [(1,)])
        self.assertEqual(best_wish_plan(book, (1,), [((), (1,), 2)], toggle=2), [()])
        self.assertEqual(best_wish_plan(book, (1,), [((), (), 2)], toggle=0), [()])

    def test_against_all_plans(self):
        for seed in range(150):
            book, versions, home, requests, source = random_case(self, seed)
            wishes = []
            for version, count in requests:
                outside = tuple(set(book) - set(version))
                wanted = tuple(n for n in version if source.random() < 0.5)
                unwanted = tuple(n for n in outside if source.random() < 0.5)
                wishes.append((*close_wish(book, wanted, unwanted), count))
            look, toggle = source.randrange(1, 4), source.randrange(9)
            plan = same_arguments(self, best_wish_plan, book, home, wishes, look=look, toggle=toggle)
            self.assertEqual([entry for entry in plan if entry not in versions], [])
            expected = least_cost(versions, home, wishes, toggling(book, [toggle] * len(book)), serving(book, look))
            self.assertEqual(wish_cost(book, home, wishes, plan, look=look, toggle=toggle), expected)

    def test_wishes_of_versions_give_the_best_plan(self):
        for seed in range(40):
            book, _, home, requests, source = random_case(self, seed)
            wishes = [wish_of(book, version, count) for version, count in requests]
            look, toggle = source.randrange(1, 4), source.randrange(9)
            self.assertEqual(best_wish_plan(book, home, wishes, look=look, toggle=toggle),
                             best_plan(book, home, requests, look=look, toggle=toggle))

    def test_great_numbers(self):
        book = wide_book(2)
        wishes = [((1,), (), 10 ** 30), ((), (1,), 10 ** 30 - 1), ((1,), (), 1)]
        plan = best_wish_plan(book, (), wishes, look=10 ** 12, toggle=10 ** 42)
        self.assertEqual(plan, [()] * 3)
        self.assertEqual(best_wish_plan(book, (), wishes, look=10 ** 12, toggle=10 ** 42 // 2 - 1), [(1,), (), ()])

    def test_a_list_at_the_limits(self):
        book = wide_book(200)
        everything = tuple(range(1, 201))
        wishes = [(everything[place % 100:], (), 10 ** 30) for place in range(400)]
        plan = best_wish_plan(book, (), wishes, look=10 ** 12, toggle=10 ** 12)
        self.assertEqual(plan, [everything] * 400)


class ErrorsTest(unittest.TestCase):

    def check(self, error, fields, home, wishes, plan, **prices):
        book = chain_book()
        refused(self, error, fields, wish_cost, book, home, wishes, plan, **prices)
        if error is not BadPlan:
            refused(self, error, fields, best_wish_plan, book, home, wishes, **prices)

    def test_the_home_comes_first(self):
        for bad in NO_VERSIONS:
            self.check(NotAVersion, (bad,), bad, [((2,), (), 0)], [(2,)], look=0, toggle=-1)

    def test_bad_wishes(self):
        bad_wishes = [(bad, (), 1) for bad in NO_VERSIONS if bad != (1, 3)]
        bad_wishes += [((), unwanted, 1) for unwanted in ((2, 1), (1, 2, 2), (0,), (-1,), (5,), (10 ** 40,))]
        bad_wishes += [
            ((1, 3), (), 1), ((1, 3), (1, 2, 3), 1), ((1,), (), 1), ((1,), (4,), 1), ((3,), (1,), 1), ((), (1,), 1),
            ((1,), (1, 2, 3), 1), ((1,), (2, 3), 0), ((), (), -1), ((), (), -10 ** 40),
        ]
        for bad in bad_wishes:
            self.check(BadWish, (1,), (), [((), (), 1), bad, ((2,), (), 0)], [(2,)], look=0, toggle=-1)

    def test_only_closed_wishes_are_let(self):
        for seed in range(15):
            book, _ = random_book(self, seed, attempts=4)
            tuples = [part for many in range(4) for part in itertools.combinations(book, many)]
            for wanted, unwanted in itertools.product(tuples, repeat=2):
                self.check_wish(book, wanted, unwanted)

    def check_wish(self, book, wanted, unwanted):
        try:
            closed = close_wish(book, wanted, unwanted) == (wanted, unwanted)
        except (Conflict, WishClash):
            closed = False
        if closed:
            self.assertEqual(len(best_wish_plan(book, (), [(wanted, unwanted, 1)])), 1)
        else:
            refused(self, BadWish, (0,), best_wish_plan, book, (), [(wanted, unwanted, 1)])

    def test_bad_plans(self):
        wishes = [((), (), 1), ((), (1, 2), 1)]
        for bad in NO_VERSIONS:
            self.check(BadPlan, (1,), (), wishes, [(1,), bad], look=0, toggle=-1)
            self.check(BadPlan, (2,), (), wishes, [(), (), bad, bad], look=0, toggle=-1)
        self.check(BadPlan, (0,), (), wishes, [], look=0, toggle=-1)
        self.check(BadPlan, (2,), (), wishes, [()] * 3, look=0, toggle=-1)

    def test_bad_prices(self):
        for look in (0, -1, -10 ** 12):
            self.check(BadPrice, (look,), (), [((), (), 1)], [()], look=look, toggle=-7)
        self.check(BadPrice, (-7,), (), [], [], toggle=-7)
        book = chain_book()
        refused(self, BadPrice, (3,), wish_cost, book, (), [], [], toggle=[-1, -2, -3])
        refused(self, BadPrice, (-2,), wish_cost, book, (), [], [], toggle=[0, -2, -3, 0])

    def test_a_later_patch_opens_a_wish(self):
        book = chain_book()
        wish = wish_of(book, (1,), 1)
        book.make_patch([(0, 7)])
        refused(self, BadWish, (0,), best_wish_plan, book, (), [wish])
        self.assertEqual(wish_of(book, (1,), 1), ((1,), (2, 3, 4, 5), 1))


if __name__ == "__main__":
    unittest.main()

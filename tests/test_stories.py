"""Point 62: logs with false entries."""

import itertools
import random
import unittest

from livecopy.book import Book
from livecopy.errors import BadIndex, BadPrice, BadRequest, NotAVersion
from livecopy.plans import best_plan, patch_bound
from livecopy.requests import plan_cost
from livecopy.stories import story_sides, story_through
from tests.support import (
    EXAMPLE_REQUESTS, NO_VERSIONS, chain_book, example_book, random_case, refused, same_arguments, snapshot, wide_book)


def all_stories(book, versions, home, looks, look, toggle):
    """All plans with their costs."""
    return [
        (list(plan), plan_cost(book, home, looks, list(plan), look=look, toggle=toggle))
        for plan in itertools.product(versions, repeat=len(looks))]


def small_case(case, seed):
    book, versions, home, looks, source = random_case(case, seed, most=3, attempts=4)
    return book, versions, home, looks, source.randrange(1, 4), source.randrange(7)


class StoryTest(unittest.TestCase):

    def test_the_worked_example(self):
        looks = list(EXAMPLE_REQUESTS)
        book = example_book()
        self.assertEqual(same_arguments(self, story_sides, book, (), looks), [((1, 2), ())] * 3)
        self.assertEqual(same_arguments(self, story_through, book, (), looks, 1, (3,)), ([(1, 2), (3,), ()], 8))
        self.assertEqual(story_through(book, (), looks, 1, (1, 2)), ([(1, 2)] * 3, 5))

    def test_patches_that_may_be_on_or_off(self):
        book = wide_book(2)
        self.assertEqual(story_sides(book, (2,), [((1, 2), 1)]), [((2,), (1,))])
        self.assertEqual(story_sides(book, (2,), [((1, 2), 1)], look=2), [((1, 2), ())])
        self.assertEqual(story_sides(book, (), []), [])
        self.assertEqual(story_sides(Book([0]), (), [((), 4)]), [((), ())])

    def test_sides_against_all_stories(self):
        for seed in range(150):
            book, versions, home, looks, look, toggle = small_case(self, seed)
            stories = all_stories(book, versions, home, looks, look, toggle)
            least = min(cost for _, cost in stories)
            sides = same_arguments(self, story_sides, book, home, looks, look=look, toggle=toggle)
            self.assertEqual(len(sides), len(looks))
            for index, (needed, free) in enumerate(sides):
                self.assertEqual((needed, free), (tuple(sorted(needed)), tuple(sorted(free))))
                found = {tuple(plan[index]) for plan, cost in stories if cost == least}
                fitting = {v for v in versions if set(needed) <= set(v) <= set(needed) | set(free)}
                self.assertEqual(found, fitting)

    def test_through_against_all_stories(self):
        for seed in range(120):
            book, versions, home, looks, look, toggle = small_case(self, seed)
            stories = all_stories(book, versions, home, looks, look, toggle)
            for index, version in itertools.product(range(len(looks)), versions):
                costs = [cost for plan, cost in stories if plan[index] == version]
                plan, cost = same_arguments(
                    self, story_through, book, home, looks, index, version, look=look, toggle=toggle)
                self.assertEqual((plan[index], cost), (version, min(costs)))
                self.assertEqual(plan_cost(book, home, looks, plan, look=look, toggle=toggle), cost)
                for other, price in stories:
                    if other[index] == version and price == cost:
                        self.assertTrue(all(set(entry) <= set(wide) for entry, wide in zip(plan, other)))

    def test_through_an_entry_of_the_best_plan(self):
        for seed in range(60):
            book, versions, home, looks, source = random_case(self, seed)
            plan = best_plan(book, home, looks, toggle=3)
            bound = patch_bound(book, home, looks, toggle=3)
            for index, entry in enumerate(plan):
                self.assertEqual(story_through(book, home, looks, index, entry, toggle=3), (plan, bound))

    def test_bad_indexes(self):
        looks = [((1,), 1), ((), 2)]
        for index in (2, -1, -2, 10 ** 30, -10 ** 30):
            refused(self, BadIndex, (index,), story_through, chain_book(), (), looks, index, (2,), look=0)
        refused(self, BadIndex, (0,), story_through, chain_book(), (), [], 0, ())
        for index in (0, 1):
            self.assertEqual(story_through(chain_book(), (), looks, index, ())[0][index], ())

    def test_order_of_errors(self):
        bad = [((1,), 1), ((2,), 1)]
        for version in NO_VERSIONS:
            refused(self, NotAVersion, (version,), story_sides, chain_book(), version, bad, look=0)
            refused(self, NotAVersion, (version,), story_through, chain_book(), version, bad, 5, (2,), look=0)
            refused(self, BadRequest, (1,), story_through, chain_book(), (), [((), 1), (version, 1)], 5, (2,))
            refused(self, NotAVersion, (version,), story_through, chain_book(), (), bad[:1], 0, version, toggle=-1)
        refused(self, BadRequest, (1,), story_sides, chain_book(), (), bad, look=0)
        refused(self, BadRequest, (0,), story_sides, chain_book(), (), [((), 0)])
        refused(self, BadPrice, (0,), story_sides, chain_book(), (), bad[:1], look=0, toggle=-1)
        refused(self, BadPrice, (-1,), story_sides, chain_book(), (), bad[:1], toggle=-1)
        refused(self, BadPrice, (0,), story_through, chain_book(), (), bad[:1], 0, (1,), look=0, toggle=-1)
        refused(self, BadPrice, (-1,), story_through, chain_book(), (), bad[:1], 0, (1,), toggle=-1)

    def test_nothing_is_shared(self):
        book, looks = chain_book(), [((1,), 3), ((3,), 1)]
        before = snapshot(book)
        story_sides(book, (), looks).clear()
        story_through(book, (), looks, 0, ())[0].clear()
        self.assertEqual((snapshot(book), looks), (before, [((1,), 3), ((3,), 1)]))
        self.assertEqual(len(story_sides(book, (), looks)), 2)

    def test_at_the_limits(self):
        book = wide_book(200)
        source = random.Random(6)
        great = 10 ** 12
        looks = [
            (tuple(n for n in range(1, 201) if source.random() < 0.5), source.choice((1, 2, 10 ** 30)))
            for _ in range(400)]
        sides = story_sides(book, (), looks, look=great, toggle=great)
        for (needed, free), entry in zip(sides, best_plan(book, (), looks, look=great, toggle=great)):
            self.assertEqual((needed, set(needed) & set(free)), (entry, set()))
        plan, cost = story_through(book, (), looks, 200, (7,), look=great, toggle=great)
        self.assertEqual((plan[200], plan_cost(book, (), looks, plan, look=great, toggle=great)), ((7,), cost))


if __name__ == "__main__":
    unittest.main()

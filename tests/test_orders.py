"""Point 61: requests for a tree book in any order."""

import itertools
import random
import unittest

from livecopy.book import Book
from livecopy.errors import BadPrice, BadRequest, NotATree, NotAVersion
from livecopy.orders import best_order, beyond, order_cost
from livecopy.plans import patch_bound
from livecopy.requests import plan_cost
from livecopy.trees import independent_pair, tree_versions
from tests.support import chain_book, example_book, refused, same_arguments, snapshot

GREAT = 10 ** 30


def random_tree(seed, most=6):
    """A book in which all patches write cell 0, each one behind an earlier one or none."""
    source = random.Random(seed)
    book = Book([0])
    for number in range(1, source.randrange(most + 1) + 1):
        parent = source.randrange(number)
        book.make_patch([(0, number)], requires=(parent,) if parent else (), size=source.choice((0, 1, 2, 5)))
    return book, source


def random_counts(book, source, most, counts=(1, 1, 2, 3, 7)):
    versions = tree_versions(book)
    return [(version, source.choice(counts)) for version in source.sample(versions, source.randrange(
        min(most, len(versions)) + 1))]


class OrderTest(unittest.TestCase):

    def check_best(self, book, home, counts, look, toggle):
        """The order and the plan that are returned cost what order_cost says."""
        cost = order_cost(book, home, counts, look=look, toggle=toggle)
        requests, plan = same_arguments(self, best_order, book, home, counts, look=look, toggle=toggle)
        self.assertEqual(sorted(requests), sorted(counts))
        self.assertEqual(plan_cost(book, home, requests, plan, look=look, toggle=toggle), cost)
        return cost

    def test_beyond(self):
        book = example_book()
        counts = [((1, 2), 5), ((3,), 2), ((), 7)]
        self.assertEqual(same_arguments(self, beyond, book, (), counts), [5, 5, 2])
        self.assertEqual(beyond(book, (1, 2), counts), [9, 9, 2])
        self.assertEqual(beyond(book, (3,), counts), [5, 5, 12])
        self.assertEqual(beyond(book, (), []), [0, 0, 0])
        self.assertEqual(beyond(Book([0]), (), [((), GREAT)]), [])

    def test_a_small_case(self):
        book = example_book()
        counts = [((3,), 4), ((1, 2), 3)]
        # To (3,) and back, then to stay at (1, 2).
        self.assertEqual(order_cost(book, (), counts), 4)
        self.assertEqual(best_order(book, (), counts), ([((3,), 4), ((1, 2), 3)], [(3,), (1, 2)]))
        self.assertEqual(order_cost(book, (), counts, toggle=2), 8)
        # Twice the price is as dear as (3,) from the empty version.
        self.assertEqual(order_cost(book, (), [((3,), 4), ((1, 2), 30)], toggle=3), 4 + 6)
        self.assertEqual(order_cost(book, (), counts, toggle=100), 10)
        self.assertEqual(order_cost(book, (), counts, toggle=0), 0)

    def test_the_end_that_saves_most(self):
        book = Book([0])
        book.make_patch([(0, 1)])
        book.make_patch([(0, 2)])
        book.make_patch([(0, 3)], requires=(2,))
        # To stay at (1,) saves 10, to stay at (2, 3) saves 6 + 6.
        counts = [((1,), 1000), ((2, 3), 16)]
        self.assertEqual(beyond(book, (), counts), [1000, 16, 16])
        self.assertEqual(self.check_best(book, (), counts, 1, 10), 20 + 16 + 16 - 12)
        # Now the patches behind (1,) are not worth a single toggle.
        self.assertEqual(self.check_best(book, (), [((1,), 1000), ((2, 3), 9)], 1, 10), 20 + 9 + 9 - 10)

    def test_formula(self):
        for seed in range(200):
            book, source = random_tree(seed, 9)
            versions = tree_versions(book)
            home, counts = source.choice(versions), random_counts(book, source, 9)
            look, toggle = source.randrange(1, 4), source.randrange(12)
            sums = beyond(book, home, counts)
            for number, found in zip(book, sums):
                self.assertEqual(found, sum(count for version, count in counts if (number in version) != (number in home)))
            least = {n: min(look * sums[n - 1], 2 * toggle) for n in book}
            saved = max(
                sum(book.size_of(n) * max(0, least[n] - toggle) for n in set(version) ^ set(home))
                for version in versions)
            cost = sum(book.size_of(n) * least[n] for n in book) - saved
            self.assertEqual(same_arguments(self, order_cost, book, home, counts, look=look, toggle=toggle), cost)
            self.assertEqual(self.check_best(book, home, counts, look, toggle), cost)

    def test_against_all_orders(self):
        for seed in range(120):
            book, source = random_tree(seed)
            home, counts = source.choice(tree_versions(book)), random_counts(book, source, 5)
            look, toggle = source.randrange(1, 4), source.randrange(8)
            least = min(
                patch_bound(book, home, list(order), look=look, toggle=toggle)
                for order in itertools.permutations(counts))
            self.assertEqual(self.check_best(book, home, counts, look, toggle), least)

    def test_no_requests_and_no_patches(self):
        self.assertEqual((order_cost(example_book(), (3,), []), best_order(example_book(), (3,), [])), (0, ([], [])))
        self.assertEqual(best_order(Book([0]), (), [((), 3)]), ([((), 3)], [()]))
        self.assertEqual(order_cost(Book([0]), (), [((), 3)]), 0)

    def test_order_of_errors(self):
        book = chain_book()
        bad = [((2,), 1)]
        for call in (beyond, order_cost, best_order):
            refused(self, NotATree, (1, 4), call, book, (2,), bad)
            refused(self, NotAVersion, ((2,),), call, example_book(), (2,), bad)
            refused(self, BadRequest, (0,), call, example_book(), (), bad)
            refused(self, BadRequest, (1,), call, example_book(), (), [((1,), 1), ((1,), 0), ((2,), 1)])
            refused(self, BadRequest, (0,), call, example_book(), (), [((), 0)])
            refused(self, BadRequest, (2,), call, example_book(), (), [((1,), 1), ((3,), 2), ((1,), 3)])
            refused(self, BadRequest, (1,), call, example_book(), (), [((1,), 1), ((2,), 1), ((1,), 1)])
            refused(self, BadRequest, (1,), call, example_book(), (), [((1,), 1), ((3,), -1), ((1,), 1)])
            refused(self, BadRequest, (1,), call, example_book(), (), [((1,), 1), ((1,), 1), ((2,), 1)])
        for call in (order_cost, best_order):
            refused(self, NotATree, (1, 4), call, book, (), [], look=0)
            refused(self, BadRequest, (0,), call, example_book(), (), bad, look=0, toggle=-1)
            refused(self, BadPrice, (0,), call, example_book(), (), [], look=0, toggle=-1)
            refused(self, BadPrice, (-1,), call, example_book(), (), [], toggle=-1)

    def test_nothing_is_shared(self):
        book, counts = example_book(), [((3,), 4), ((1, 2), 3)]
        before = snapshot(book)
        beyond(book, (), counts).clear()
        requests, plan = best_order(book, (), counts)
        requests.clear()
        plan.clear()
        self.assertEqual((snapshot(book), counts), (before, [((3,), 4), ((1, 2), 3)]))
        self.assertEqual(best_order(book, (), counts)[1], [(3,), (1, 2)])

    def test_at_the_limits(self):
        source = random.Random(5)
        for parent in (lambda number: number - 1, lambda number: source.randrange(number), lambda number: 0):
            book = Book([0])
            for number in range(1, 201):
                behind = parent(number)
                book.make_patch([(0, number)], requires=(behind,) if behind else (), size=10 ** 12 - number)
            self.assertIsNone(independent_pair(book))
            counts = [(version, source.randrange(1, 10 ** 14)) for version in tree_versions(book)]
            source.shuffle(counts)
            for home in ((), counts[7][0]):
                self.check_best(book, home, counts, 3, 10 ** 12)
                self.check_best(book, home, counts, 10 ** 12, 1)


if __name__ == "__main__":
    unittest.main()

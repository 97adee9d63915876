"""Points 37 and 38: stretches and price tables."""

import itertools
import unittest

from livecopy.book import Book
from livecopy.errors import BadPrice, BadRequest, BadStretch, NotAVersion
from livecopy.plans import patch_bound
from livecopy.requests import cost_parts, plan_cost
from livecopy.tables import price_table, stretch_plan, table_cost
from tests.support import (
    EXAMPLE_REQUESTS, NO_VERSIONS, chain_book, example_book, least_cost, looking, random_case, refused,
    same_arguments, toggling, wide_book)

GREAT = 10 ** 30


def pair_of(book, home, requests, plan):
    """The pair (toggled, looked) of a plan."""
    parts = list(zip(cost_parts(book, home, requests, plan), book))
    return tuple(sum(book.size_of(number) * part[side] for part, number in parts) for side in (0, 1))


def table_by_words(book, home, requests):
    """The table, by going through all stretches."""
    table = []
    for stretch in itertools.count():
        pair = pair_of(book, home, requests, stretch_plan(book, home, requests, stretch))
        if not table or table[-1] != pair:
            table.append(pair)
        if pair[0] == 0:
            return table


class StretchPlanTest(unittest.TestCase):

    def test_plans(self):
        book = wide_book(1)
        requests = [((1,), 3), ((), 1), ((1,), 1)]
        self.assertEqual(same_arguments(self, stretch_plan, book, (), requests, 0), [(1,), (), (1,)])
        self.assertEqual(stretch_plan(book, (), requests, 1), [(1,)] * 3)
        self.assertEqual(stretch_plan(book, (), requests, 5), [(1,)] * 3)
        self.assertEqual(stretch_plan(book, (), requests, 6), [()] * 3)
        self.assertEqual(stretch_plan(book, (), requests, 10 ** 50), [()] * 3)
        self.assertEqual(stretch_plan(book, (1,), requests, 10 ** 50), [(1,)] * 3)
        self.assertEqual(stretch_plan(book, (1,), [], 0), [])
        self.assertEqual(stretch_plan(Book([0]), (), [((), 5)] * 2, 3), [(), ()])

    def test_the_worked_example(self):
        requests = list(EXAMPLE_REQUESTS)
        self.assertEqual(stretch_plan(example_book(), (), requests, 1), [(1, 2)] * 3)
        self.assertEqual(stretch_plan(example_book(), (), requests, 2), [(1, 2)] * 3)

    def test_no_plan_costs_less_in_the_stretch(self):
        for seed in range(120):
            book, versions, home, requests, source = random_case(self, seed)
            stretch, look = source.randrange(12), source.randrange(1, 7)
            plan = same_arguments(self, stretch_plan, book, home, requests, stretch)
            self.assertEqual([entry for entry in plan if entry not in versions], [])
            for toggle in range(-(-stretch * look // 2), (stretch + 1) * look // 2 + 1):
                expected = least_cost(
                    versions, home, requests, toggling(book, [toggle] * len(book)), looking(book, look))
                self.assertEqual(plan_cost(book, home, requests, plan, look=look, toggle=toggle), expected)

    def test_errors(self):
        book = chain_book()
        for bad in NO_VERSIONS:
            refused(self, NotAVersion, (bad,), stretch_plan, book, bad, [((2,), 1)], -1)
            refused(self, BadRequest, (1,), stretch_plan, book, (), [((), 1), (bad, 1), ((2,), 1)], -1)
        refused(self, BadRequest, (0,), stretch_plan, book, (), [((), 0)], -1)
        for stretch in (-1, -2, -10 ** 40):
            refused(self, BadStretch, (stretch,), stretch_plan, book, (), [], stretch)
            refused(self, BadStretch, (stretch,), stretch_plan, Book([0]), (), [((), 1)], stretch)


class PriceTableTest(unittest.TestCase):

    def test_tables(self):
        book = wide_book(1)
        requests = [((1,), 3), ((), 1), ((1,), 1)]
        self.assertEqual(same_arguments(self, price_table, book, (), requests), [(3, 0), (1, 1), (0, 4)])
        self.assertEqual(price_table(book, (1,), requests), [(2, 0), (0, 1)])
        self.assertEqual(price_table(example_book(), (), list(EXAMPLE_REQUESTS)), [(8, 0), (2, 3), (0, 9)])

    def test_tables_of_one_pair(self):
        self.assertEqual(price_table(Book([0]), (), []), [(0, 0)])
        self.assertEqual(price_table(Book([0]), (), [((), 7)]), [(0, 0)])
        self.assertEqual(price_table(chain_book(), (3,), []), [(0, 0)])
        self.assertEqual(price_table(chain_book(), (3,), [((3,), 2)] * 3), [(0, 0)])

    def test_sizes_count(self):
        self.assertEqual(price_table(chain_book(), (), [((3,), 2), ((3, 4), 1)]), [(6, 0), (5, 1), (0, 16)])

    def test_against_all_stretches(self):
        for seed in range(150):
            book, versions, home, requests, source = random_case(self, seed, most=9)
            table = same_arguments(self, price_table, book, home, requests)
            self.assertEqual(table, table_by_words(book, home, requests))
            self.assertEqual(table[-1][0], 0)
            self.assertLessEqual(len(table), 1 + len(book) * len(requests))
            for (more, less), (fewer, greater) in itertools.pairwise(table):
                self.assertTrue(more > fewer and less < greater)
            for _ in range(4):
                look, toggle = source.randrange(1, 5), source.randrange(12)
                expected = least_cost(
                    versions, home, requests, toggling(book, [toggle] * len(book)), looking(book, look))
                self.assertEqual(table_cost(table, look=look, toggle=toggle), expected)

    def test_counts_that_are_too_large_to_go_through(self):
        book = wide_book(1)
        requests = [((1,), 3 * GREAT), ((), GREAT), ((1,), GREAT + 1)]
        self.assertEqual(price_table(book, (), requests), [(3, 0), (1, GREAT), (0, 4 * GREAT + 1)])
        # The plan changes where the doubled price is the count.
        self.assertEqual(stretch_plan(book, (), requests, GREAT - 1), [(1,), (), (1,)])
        self.assertEqual(stretch_plan(book, (), requests, GREAT), [(1,)] * 3)

    def test_great_counts_at_random(self):
        for seed in range(60):
            book, _, home, requests, source = random_case(self, seed, most=9)
            # The stretches are spread out, so that the small table tells the great one.
            great = [(version, count * GREAT) for version, count in requests]
            table = price_table(book, home, great)
            self.assertEqual(table, [(many, looks * GREAT) for many, looks in table_by_words(book, home, requests)])
            mixed = [(version, count * GREAT + source.randrange(3)) for version, count in requests]
            table = price_table(book, home, mixed)
            for _ in range(12):
                look, toggle = source.randrange(1, 9), source.randrange(40 * GREAT)
                self.assertEqual(table_cost(table, look=look, toggle=toggle),
                                 patch_bound(book, home, mixed, look=look, toggle=toggle))

    def test_a_table_at_the_limits(self):
        book = wide_book(60)
        requests = [
            (tuple(number for number in book if (number * place + number * number) % 7 < 3), GREAT - 31 * place * place)
            for place in range(1, 61)]
        table = price_table(book, (), requests)
        self.assertEqual(table[0][1], 0)
        self.assertEqual(table[-1][0], 0)
        for toggle in (0, 1, GREAT // 3, GREAT // 2, GREAT, 20 * GREAT):
            self.assertEqual(table_cost(table, toggle=toggle), patch_bound(book, (), requests, toggle=toggle))

    def test_errors(self):
        book = chain_book()
        for bad in NO_VERSIONS:
            refused(self, NotAVersion, (bad,), price_table, book, bad, [((2,), 1)])
            refused(self, BadRequest, (1,), price_table, book, (), [((), 1), (bad, 1), ((2,), 1)])
        refused(self, BadRequest, (0,), price_table, book, (), [((), 0)])

    def test_the_list_is_new(self):
        book = chain_book()
        requests = [((3,), 2)]
        price_table(book, (), requests).clear()
        self.assertEqual(price_table(book, (), requests), [(5, 0), (0, 10)])


class TableCostTest(unittest.TestCase):

    def test_costs(self):
        table = [(3, 0), (1, 1), (0, 4)]
        self.assertEqual(same_arguments(self, table_cost, table), 2)
        self.assertEqual(table_cost(table, toggle=0), 0)
        self.assertEqual(table_cost(table, look=5), 3)
        self.assertEqual(table_cost(table, look=2, toggle=100), 8)
        self.assertEqual(table_cost([(0, 0)], look=7, toggle=7), 0)

    def test_errors(self):
        for look in (0, -1):
            refused(self, BadPrice, (look,), table_cost, [(0, 0)], look=look, toggle=-2)
        refused(self, BadPrice, (-2,), table_cost, [(0, 0)], toggle=-2)


if __name__ == "__main__":
    unittest.main()

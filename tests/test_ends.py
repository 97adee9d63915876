"""Points 50 and 51: the costs of all ends."""

import random
import unittest

from livecopy.book import Book
from livecopy.counters import end_costs
from livecopy.ends import EndTable
from livecopy.errors import BadCount, BadPrice, BadState, NotAVersion
from livecopy.plans import patch_bound
from livecopy.requests import votes
from tests.support import (
    EXAMPLE_REQUESTS, NO_VERSIONS, chain_book, example_book, least_cost, looking, random_case, refused,
    same_arguments, toggling, wide_book)


def answers(table, versions):
    """Everything that can be asked of a table."""
    return (
        table.least(), table.counters(), table.ends(), table.state(), [table.cost_to(version) for version in versions])


def heard(book, home, requests, **prices):
    table = EndTable(book, home, **prices)
    for version, count in requests:
        table.request(version, count)
    return table


def ending_cost(book, versions, home, requests, version, look, toggle):
    """The least cost of a plan that is led to the version at the end, by trying all plans."""
    prices = [toggle] * len(book)
    serve = looking(book, look)

    def serve_or_end(ask, entry):
        if ask is not None:
            return serve(ask, entry)
        return 0 if entry == version else 10 ** 9
    return least_cost(versions, home, requests + [None], toggling(book, prices), serve_or_end)


class EndTableTest(unittest.TestCase):

    def test_a_new_table(self):
        table = same_arguments(self, EndTable, chain_book(), (1, 2), toggle=3)
        self.assertEqual(table.counters(), [3, 3, -3, -3])
        self.assertEqual((table.least(), table.ends(), table.state()), (0, ((1, 2), ()), (0, (3, 3, -3, -3))))
        self.assertEqual([table.cost_to(v) for v in ((), (1, 2), (1, 2, 4), (3,))], [9, 0, 3, 24])

    def test_the_worked_example(self):
        table = EndTable(example_book(), ())
        self.assertIsNone(table.request((1, 2), 3))
        self.assertEqual((table.counters(), table.least()), ([1, 1, -1], 2))
        table.request((3,))
        self.assertEqual((table.counters(), table.least(), table.ends()), ([0, 0, 0], 5, ((), (1, 2, 3))))
        table.request((1, 2), 1)
        self.assertEqual((table.counters(), table.least(), table.ends()), ([1, 1, -1], 5, ((1, 2), ())))
        self.assertEqual([table.cost_to(v) for v in ((), (1,), (1, 2), (3,))], [7, 6, 5, 8])

    def test_the_default_count(self):
        first, second = EndTable(chain_book(), ()), EndTable(chain_book(), ())
        first.request((3,))
        second.request((3,), count=1)
        self.assertEqual(first.state(), second.state())

    def test_a_toggle_price_of_0(self):
        table = heard(chain_book(), (1,), [((3,), 4), ((1, 2), 2)], toggle=0)
        self.assertEqual((table.counters(), table.least(), table.ends()), ([0] * 4, 0, ((), (1, 2, 3, 4))))
        self.assertEqual([table.cost_to(v) for v in ((), (3, 4), (1, 2))], [0, 0, 0])
        self.assertEqual(EndTable(Book([0]), ()).ends(), ((), ()))

    def test_against_all_plans(self):
        for seed in range(60):
            book, versions, home, requests, source = random_case(self, seed, most=5, attempts=5)
            look, toggle = source.randrange(1, 4), source.randrange(7)
            table = EndTable(book, home, look=look, toggle=toggle)
            for many in range(len(requests) + 1):
                self.check_table(table, book, versions, home, requests[:many], look, toggle)
                if many < len(requests):
                    same_arguments(self, table.request, *requests[many])

    def check_table(self, table, book, versions, home, requests, look, toggle):
        costs = {v: ending_cost(book, versions, home, requests, v, look, toggle) for v in versions}
        self.assertEqual({v: same_arguments(self, table.cost_to, v) for v in versions}, costs)
        self.assertEqual(table.least(), min(costs.values()))
        self.assertEqual(table.least(), patch_bound(book, home, requests, look=look, toggle=toggle))
        counters = table.counters()
        for number in book:
            off, on = end_costs(number in home, votes(book, requests, number, look=look), toggle)
            self.assertEqual(counters[number - 1], off - on)
            self.assertTrue(-toggle <= counters[number - 1] <= toggle)
            self.assertTrue(all(counters[number - 1] <= counters[n - 1] for n in book.required(number)))
            self.assertTrue(all(counters[number - 1] + counters[n - 1] <= 0 for n in book.conflicting(number)))
        needed, free = table.ends()
        self.assertEqual(needed, tuple(n for n in book if counters[n - 1] > 0))
        self.assertEqual(free, tuple(n for n in book if counters[n - 1] == 0))
        self.assertIn(needed, versions)
        for version in versions:
            inside = set(needed) <= set(version) <= set(needed + free)
            self.assertIs(table.cost_to(version) == table.least(), inside)

    def test_great_counts(self):
        table = EndTable(wide_book(2), (), look=10 ** 12, toggle=10 ** 12)
        table.request((1,), 10 ** 30)
        table.request((2,), 10 ** 30)
        self.assertEqual(table.counters(), [-10 ** 12, 10 ** 12])
        self.assertEqual(table.least(), 3 * 10 ** 12)
        table = EndTable(wide_book(1), (), toggle=10 ** 30)
        table.request((1,), 10 ** 30 - 1)
        self.assertEqual((table.counters(), table.cost_to((1,))), ([-1], 10 ** 30))
        table.request((1,), 10 ** 30)
        self.assertEqual((table.counters(), table.least()), ([10 ** 30 - 1], 10 ** 30))

    def test_a_book_that_grows(self):
        for seed in range(60):
            book, versions, home, requests, source = random_case(self, seed, attempts=5)
            look, toggle = source.randrange(1, 4), source.randrange(7)
            table = heard(book, home, requests[:3], look=look, toggle=toggle)
            least = table.least()
            new = book.make_patch([(0, 5), (1, 5)], size=7)
            later = requests[3:] + [((new,), source.randrange(1, 4)), ((), 1)]
            self.assertEqual((table.least(), table.counters()[-1]), (least, -toggle))
            self.assertEqual(table.cost_to((new,)), table.cost_to(()) + 7 * toggle)
            afresh = heard(book, home, requests[:3], look=look, toggle=toggle)
            self.assertEqual(answers(table, versions + [(new,)]), answers(afresh, versions + [(new,)]))
            for version, count in later:
                table.request(version, count)
                afresh.request(version, count)
            self.assertEqual(answers(table, versions + [(new,)]), answers(afresh, versions + [(new,)]))
            self.assertEqual(table.least(), patch_bound(book, home, requests[:3] + later, look=look, toggle=toggle))

    def test_what_is_returned_is_new(self):
        table = heard(chain_book(), (), [((3,), 4)])
        before = answers(table, [()])
        table.counters().clear()
        table.counters()[0] = 99
        self.assertEqual(answers(table, [()]), before)

    def test_errors(self):
        book = chain_book()
        for bad in NO_VERSIONS:
            refused(self, NotAVersion, (bad,), EndTable, book, bad, look=0, toggle=-1)
        for look in (0, -1):
            refused(self, BadPrice, (look,), EndTable, book, (), look=look, toggle=-2)
        refused(self, BadPrice, (-2,), EndTable, book, (), toggle=-2)
        table = heard(book, (1,), [((3,), 4)], toggle=3)
        before = answers(table, [(), (1,)])
        for bad in NO_VERSIONS:
            refused(self, NotAVersion, (bad,), table.request, bad, 0)
            refused(self, NotAVersion, (bad,), table.cost_to, bad)
        for count in (0, -1, -10 ** 40):
            refused(self, BadCount, (count,), table.request, (1,), count)
        self.assertEqual(answers(table, [(), (1,)]), before)


class StateTest(unittest.TestCase):

    def test_all_later_answers(self):
        for seed in range(80):
            book, versions, home, requests, source = random_case(self, seed, most=8)
            prices = {"look": source.randrange(1, 4), "toggle": source.randrange(7)}
            table = heard(book, home, requests[:3], **prices)
            state = table.state()
            self.assertEqual(state, (table.least(), tuple(table.counters())))
            other_book, _, _, _, _ = random_case(self, seed, most=8)
            resumed = same_arguments(self, EndTable.resumed, other_book, state, **prices)
            self.assertIsInstance(resumed, EndTable)
            self.assertEqual(answers(resumed, versions), answers(table, versions))
            for version, count in requests[3:]:
                table.request(version, count)
                resumed.request(version, count)
                self.assertEqual(answers(resumed, versions), answers(table, versions))

    def test_the_tables_do_not_change_each_other(self):
        book = chain_book()
        table = heard(book, (1,), [((3,), 1)], toggle=4)
        state = table.state()
        resumed = EndTable.resumed(book, state, toggle=4)
        resumed.request((4,), 2)
        self.assertEqual(table.state(), state)
        book.make_patch([(1, 5)])
        self.assertEqual(resumed.counters()[-1], -4)
        refused(self, BadState, (0,), EndTable.resumed, book, state, toggle=4)

    def test_the_prices_come_first(self):
        book = chain_book()
        refused(self, BadPrice, (0,), EndTable.resumed, book, (-1, ()), look=0, toggle=-1)
        refused(self, BadPrice, (-1,), EndTable.resumed, book, (-1, ()), toggle=-1)

    def test_place_0(self):
        book = chain_book()
        for state in ((-1, (0, 0, 0, 0)), (-1, (9, 9, 9, 9)), (0, (9, 9, 9)), (0, (0,) * 5), (7, ()), (-10 ** 40, ())):
            refused(self, BadState, (0,), EndTable.resumed, book, state, toggle=3)
        self.assertEqual(EndTable.resumed(Book([0]), (5, ()), toggle=3).least(), 5)
        refused(self, BadState, (0,), EndTable.resumed, Book([0]), (5, (0,)), toggle=3)

    def test_places_of_patches(self):
        book = chain_book()
        for counters, place in (
            ((4, 0, 0, 0), 1), ((-4, 0, 0, 9), 1), ((0, 0, 0, 4), 4), ((3, 3, -3, -4), 4),
            ((0, 1, 0, 0), 2), ((-3, -2, 0, 9), 2), ((1, 0, 0, 0), 3), ((0, 0, 1, 4), 3), ((2, 1, -1, 0), 3),
            ((-3, -3, 4, 0), 3), ((10 ** 40, 0, 0, 0), 1),
        ):
            refused(self, BadState, (place,), EndTable.resumed, book, (0, counters), toggle=3)
        for counters in ((3, 3, -3, 3), (0, 0, 0, 0), (2, -1, -2, -3), (-3, -3, 3, 0), (1, 1, -1, 0)):
            self.assertEqual(EndTable.resumed(book, (0, counters), toggle=3).counters(), list(counters))

    def test_requirements_and_foes_from_afar(self):
        book = wide_book(4)
        book.make_patch([(0, 9)], requires=(1, 3))
        book.make_patch([(1, 9)], requires=(5,))
        book.make_patch([(2, 9)])
        for counters, place in (
            ((1, -1, 1, 0, 1, 1, -1), None), ((1, -1, 1, 0, 0, 1, -1), 6), ((2, -1, 1, 0, 2, 1, -1), 5),
            ((1, -1, 1, 0, 1, 1, 0), 7), ((0, 0, 0, 0, 0, 0, 1), 7), ((0, 1, 0, 0, 0, 0, 0), 6),
            ((2, -2, 2, 2, 2, 2, -2), None),
        ):
            if place is None:
                self.assertEqual(EndTable.resumed(book, (3, counters), toggle=2).state(), (3, counters))
            else:
                refused(self, BadState, (place,), EndTable.resumed, book, (3, counters), toggle=2)

    def test_by_words(self):
        for seed in range(80):
            book, _, _, _, source = random_case(self, seed, attempts=5)
            toggle = source.randrange(3)
            for _ in range(10):
                counters = tuple(source.randint(-toggle - (source.random() < 0.1), toggle) for _ in book)
                expected = [n for n in book if self.is_bad(book, counters, n, toggle)]
                if expected:
                    refused(self, BadState, (expected[0],), EndTable.resumed, book, (0, counters), toggle=toggle)
                else:
                    self.assertEqual(EndTable.resumed(book, (0, counters), toggle=toggle).state(), (0, counters))

    def is_bad(self, book, counters, number, toggle):
        counter = counters[number - 1]
        return (
            abs(counter) > toggle
            or any(counter > counters[other - 1] for other in book.required(number))
            or any(counter + counters[other - 1] > 0 for other in book.conflicting(number) if other < number))


class LimitsTest(unittest.TestCase):

    def test_a_table_at_the_limits(self):
        book = wide_book(200)
        source = random.Random(50)
        table = EndTable(book, (), look=10 ** 12, toggle=10 ** 12)
        requests = [(tuple(n for n in book if source.random() < 0.5), source.randrange(1, 10 ** 30)) for _ in range(400)]
        for version, count in requests:
            table.request(version, count)
        self.assertEqual(table.least(), patch_bound(book, (), requests, look=10 ** 12, toggle=10 ** 12))

    def test_the_example_is_a_tuple_of_requests(self):
        table = heard(example_book(), (), EXAMPLE_REQUESTS)
        self.assertEqual(table.state(), (5, (1, 1, -1)))


if __name__ == "__main__":
    unittest.main()

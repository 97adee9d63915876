"""Point 78: the worked example, from all sides."""

import unittest

from livecopy.book import Book
from livecopy.certificates import certificate, check_certificate
from livecopy.counters import backward, forward, least_row, side_sums, solo_cost
from livecopy.desk import Desk
from livecopy.ends import EndTable
from livecopy.exact import exact_cost
from livecopy.keeper import Keeper
from livecopy.live import LiveCopy
from livecopy.movers import Planned
from livecopy.plans import best_plan, patch_bound
from livecopy.programs import Program
from livecopy.requests import cost_parts, plan_cost, votes
from livecopy.runs import run_live, run_plain
from livecopy.streams import Stream
from livecopy.texts import book_text, parse_book
from livecopy.trees import independent_pair, tree_versions
from livecopy.versions import all_versions
from tests.support import snapshot

REQUESTS = [((1, 2), 3), ((3,), 1), ((1, 2), 1)]


class ExampleTest(unittest.TestCase):

    def setUp(self):
        self.book = Book([0])
        self.book.make_patch([(0, 1)])
        self.book.make_patch([(0, 2)], requires=(1,))
        self.book.make_patch([(0, 3)])

    def test_the_book(self):
        book = self.book
        self.assertEqual([book.size_of(number) for number in book], [1, 1, 1])
        self.assertEqual([book.conflicting(number) for number in book], [(3,), (3,), (1, 2)])
        self.assertIsNone(independent_pair(book))
        self.assertEqual(sorted(tree_versions(book)), [(), (1,), (1, 2), (3,)])
        self.assertEqual(all_versions(book), [(), (1,), (3,), (1, 2)])
        self.assertEqual(snapshot(parse_book(book_text(book))), snapshot(book))
        copy = LiveCopy(book)
        self.assertEqual([copy.read(version, 0) for version in all_versions(book)], [0, 1, 3, 2])

    def test_the_numbers_of_the_patches(self):
        for number in (1, 2):
            self.check_numbers(number, [3, -1, 1], [2, 0, 1], [1, 0, 1, 0], [2, 1, 1], [True] * 3, 2)
        self.check_numbers(3, [-3, 1, -1], [-4, 0, -1], [-1, 0, -1, 0], [-4, -1, -1], [False] * 3, 1)

    def check_numbers(self, number, asked, ahead, later, sums, row, cost):
        self.assertEqual(votes(self.book, REQUESTS, number), asked)
        self.assertEqual((forward(False, asked, 1), backward(asked, 1)), (ahead, later))
        self.assertEqual((side_sums(False, asked, 1), least_row(False, asked, 1)), (sums, row))
        self.assertEqual(solo_cost(False, asked, 1), cost)

    def test_the_best_plan(self):
        plan = best_plan(self.book, (), REQUESTS)
        self.assertEqual(plan, [(1, 2)] * 3)
        self.assertEqual(cost_parts(self.book, (), REQUESTS, plan), [(1, 1), (1, 1), (0, 1)])
        self.assertEqual((plan_cost(self.book, (), REQUESTS, plan), patch_bound(self.book, (), REQUESTS)), (5, 5))
        self.assertEqual(exact_cost(self.book, (), REQUESTS), 5)
        self.assertEqual(check_certificate(self.book, (), REQUESTS, certificate(self.book, (), REQUESTS)), 5)

    def test_a_stream(self):
        stream = Stream(self.book, ())
        self.assertEqual([stream.request(*request) for request in REQUESTS], [[(1, 2)], [], []])
        self.assertEqual(stream.doubt(), (1, 1, ((1,), 1), ((), 1)))
        self.assertEqual(stream.close(), [(1, 2), (1, 2)])

    def test_a_keeper_and_a_table(self):
        keeper, table = Keeper(self.book, (), bound=2), EndTable(self.book, ())
        costs = []
        for request in REQUESTS:
            costs.append(keeper.request(*request))
            table.request(*request)
            # The bound times the look price is twice the toggle price.
            self.assertEqual(keeper.counters(), [1 + counter for counter in table.counters()])
        self.assertEqual((costs, keeper.counters(), table.least()), ([6, 3, 0], [2, 2, 0], 5))

    def test_a_program(self):
        body = [("put", "a", "base", [(0, 1)]), ("put", "b", "a", [(0, 2)]), ("put", "c", "base", [(0, 3)]),
                ("repeat", 3, [("read", "x", "b", 0)]), ("read", "y", "c", 0), ("read", "z", "b", 0),
                ("print", "x"), ("print", "y"), ("print", "z")]
        program = Program([0], [], [body])
        plain = run_plain(program)
        self.assertEqual((snapshot(plain.book), plain.outcomes), (snapshot(self.book), [("done", [2, 3, 2])]))
        homes = best_plan(plain.book, (), plain.requests)
        self.assertEqual(run_live(program, Planned(homes)).cost, 5)

    def test_a_desk(self):
        desk = Desk([0], bound=2)
        for deed in (("put", "a", "base", [(0, 1)]), ("put", "b", "a", [(0, 2)]), ("put", "c", "base", [(0, 3)])):
            desk.do(deed)
        self.assertEqual(snapshot(desk.book), snapshot(self.book))
        self.assertEqual([desk.do(("read", name, 0)) for name in ("b", "b", "b", "c", "b")], [2, 2, 2, 3, 2])
        self.assertEqual((desk.cost, desk.home), (9, (1, 2)))


if __name__ == "__main__":
    unittest.main()

"""Points 33 and 34: one patch of size 1."""

import random
import unittest

from livecopy.counters import backward, end_costs, forward, greatest_row, least_row, row_cost, solo_cost
from tests.support import all_rows, same_arguments

GREAT = 10 ** 42


def cost_by_words(start, votes, toggle, row):
    """The cost of a row, as point 33 says it."""
    sides = [start] + row
    changes = sum(sides[place] != sides[place + 1] for place in range(len(row)))
    against = sum(abs(vote) for vote, on in zip(votes, row) if (vote > 0 and not on) or (vote < 0 and on))
    return toggle * changes + against


def cases():
    """Small lists of votes, with zeros, with the toggle price 0, and some with great numbers."""
    source = random.Random(33)
    for round_ in range(300):
        factor = GREAT if round_ % 10 == 0 else 1
        votes = [source.randrange(-4, 5) * factor for _ in range(source.randrange(8))]
        yield source.choice((True, False)), votes, source.randrange(6) * factor


class RowCostTest(unittest.TestCase):

    def test_costs(self):
        self.assertEqual(same_arguments(self, row_cost, False, [3, -1, 1], 10, [True, True, False]), 10 + 1 + 10 + 1)
        self.assertEqual(row_cost(True, [3, -1, 1], 10, [True, True, True]), 1)
        self.assertEqual(row_cost(True, [3, -1, 1], 10, [False, False, False]), 14)
        self.assertEqual(row_cost(False, [3, -1, 1], 0, [True, False, True]), 0)
        self.assertEqual(row_cost(True, [-5], 2, [True]), 5)
        self.assertEqual(row_cost(True, [0, 0], 2, [False, True]), 4)

    def test_no_votes(self):
        for start in (True, False):
            self.assertEqual(row_cost(start, [], 7, []), 0)

    def test_by_words(self):
        for start, votes, toggle in cases():
            for row in all_rows(len(votes))[::3]:
                self.assertEqual(row_cost(start, votes, toggle, row), cost_by_words(start, votes, toggle, row))

    def test_great_numbers(self):
        self.assertEqual(row_cost(False, [GREAT, -GREAT], GREAT + 1, [True, True]), 2 * GREAT + 1)


class NumbersTest(unittest.TestCase):

    def test_the_worked_example(self):
        self.assertEqual(same_arguments(self, forward, False, [3, -1, 1], 1), [2, 0, 1])
        self.assertEqual(same_arguments(self, backward, [3, -1, 1], 1), [1, 0, 1, 0])
        self.assertEqual(forward(False, [-3, 1, -1], 1), [-4, 0, -1])
        self.assertEqual(backward([-3, 1, -1], 1), [-1, 0, -1, 0])

    def test_forward(self):
        self.assertEqual(forward(True, [3, -1, 1], 1), [4, 0, 1])
        self.assertEqual(forward(True, [-2, 1, -9, 0], 5), [3, 4, -5, -5])
        self.assertEqual(forward(False, [-2, 1, 9, 0], 5), [-7, -4, 5, 5])
        self.assertEqual(forward(True, [2, -3], 0), [2, -3])
        self.assertEqual(forward(True, [GREAT, -3 * GREAT], GREAT), [2 * GREAT, -2 * GREAT])
        self.assertEqual(forward(False, [], 4), [])

    def test_backward(self):
        self.assertEqual(backward([1, -7, 2, 2, 2], 5), [-1, -2, 5, 4, 2, 0])
        self.assertEqual(same_arguments(self, backward, [1, -7], 5, last=5), [-1, -2, 5])
        self.assertEqual(backward([1, -7], 5, last=-5), [-4, -5, -5])
        self.assertEqual(backward([2, -3], 0), [0, 0, 0])
        self.assertEqual(backward([], 4), [0])
        self.assertEqual(backward([], 4, last=-3), [-3])
        self.assertEqual(backward([GREAT, GREAT], GREAT + 1, last=-GREAT), [GREAT, 0, -GREAT])


class LeastTest(unittest.TestCase):

    def test_rows_of_the_worked_example(self):
        self.assertEqual(same_arguments(self, least_row, False, [3, -1, 1], 1), [True, True, True])
        self.assertEqual(least_row(False, [-3, 1, -1], 1), [False, False, False])
        self.assertEqual([solo_cost(False, votes, 1) for votes in ([3, -1, 1], [-3, 1, -1])], [2, 1])

    def test_ties(self):
        self.assertEqual(least_row(False, [2], 2), [False])
        self.assertEqual(same_arguments(self, greatest_row, False, [2], 2), [True])
        self.assertEqual(least_row(True, [-2], 2), [False])
        self.assertEqual(greatest_row(True, [-2], 2), [True])
        self.assertEqual(least_row(True, [0, 0], 0), [False, False])
        self.assertEqual(greatest_row(False, [0, 0], 0), [True, True])
        self.assertEqual(least_row(True, [0, 0], 1), [True, True])
        self.assertEqual(greatest_row(False, [0, 0], 1), [False, False])

    def test_no_votes(self):
        for start in (True, False):
            self.assertEqual((least_row(start, [], 3), greatest_row(start, [], 3), solo_cost(start, [], 3)), ([], [], 0))

    def test_against_all_rows(self):
        for start, votes, toggle in cases():
            costs = [cost_by_words(start, votes, toggle, row) for row in all_rows(len(votes))]
            best = [row for row, cost in zip(all_rows(len(votes)), costs) if cost == min(costs)]
            self.assertEqual(same_arguments(self, solo_cost, start, votes, toggle), min(costs))
            self.assertEqual(least_row(start, votes, toggle), [all(sides) for sides in zip(*best)])
            self.assertEqual(greatest_row(start, votes, toggle), [any(sides) for sides in zip(*best)])
            self.assertIn(least_row(start, votes, toggle), best)
            self.assertIn(greatest_row(start, votes, toggle), best)

    def test_rows_consist_of_true_and_false(self):
        for row in (least_row(False, [3, -1, 1], 1), greatest_row(True, [3, -5, 0], 1)):
            self.assertTrue(all(side is True or side is False for side in row))


class EndCostsTest(unittest.TestCase):

    def test_no_votes(self):
        self.assertEqual(end_costs(True, [], 7), (7, 0))
        self.assertEqual(end_costs(False, [], 7), (0, 7))
        self.assertEqual(end_costs(False, [], 0), (0, 0))

    def test_a_last_change_is_paid(self):
        self.assertEqual(same_arguments(self, end_costs, False, [9], 2), (4, 2))
        self.assertEqual(end_costs(True, [-9], 2), (2, 4))

    def test_against_all_rows(self):
        for start, votes, toggle in cases():
            expected = tuple(
                min(cost_by_words(start, votes + [0], toggle, row + [end]) for row in all_rows(len(votes)))
                for end in (False, True))
            off, on = same_arguments(self, end_costs, start, votes, toggle)
            self.assertEqual((off, on), expected)
            # The last forward number, with one more vote of 0, is the counter behind the votes.
            self.assertEqual(off - on, forward(start, votes + [0], toggle)[-1])


class NewListsTest(unittest.TestCase):

    def test_results_are_new(self):
        votes = [3, -1, 1]
        for call in (lambda: forward(True, votes, 1), lambda: backward(votes, 1), lambda: least_row(True, votes, 1),
                     lambda: greatest_row(True, votes, 1)):
            expected = list(call())
            call().clear()
            self.assertEqual(call(), expected)
        self.assertEqual(votes, [3, -1, 1])


if __name__ == "__main__":
    unittest.main()

"""Point 58: rules and their foe."""

import itertools
import random
import unittest

from livecopy.counters import row_cost
from livecopy.errors import BadPrice, BadRule
from livecopy.rules import foe, rule_cost, rule_sides, side_costs
from tests.support import refused, same_arguments

GREAT = 10 ** 12

# On behind two requests for the patch in a row, and off behind two that are not for it.
SLOW = [(False, 0, 1), (False, 0, 2), (True, 3, 2), (True, 0, 2)]
ALWAYS = [(True, 0, 0)]


def random_rule(source, most=6):
    many = source.randrange(1, most + 1)
    return [(source.random() < 0.5, source.randrange(many), source.randrange(many)) for _ in range(many)]


class RuleTest(unittest.TestCase):

    def test_sides(self):
        self.assertEqual(same_arguments(self, rule_sides, ALWAYS, [False, True]), [True, True])
        self.assertEqual(rule_sides(SLOW, []), [])
        asked = [True, True, False, False, True, False, True, True, True]
        self.assertEqual(
            same_arguments(self, rule_sides, SLOW, asked),
            [False, False, True, True, False, False, False, False, True])

    def test_the_last_request_changes_no_side(self):
        self.assertEqual(rule_sides(SLOW, [True, True]), rule_sides(SLOW, [True, False]))

    def test_cost(self):
        self.assertEqual(same_arguments(self, rule_cost, SLOW, [True, True, False, False, True], look=10, toggle=3),
                         10 + 10 + 3 + 10 + 10 + 3 + 10)
        self.assertEqual(rule_cost(ALWAYS, [True]), 1)
        self.assertEqual(rule_cost(ALWAYS, []), 0)
        self.assertEqual(rule_cost(ALWAYS, [False], toggle=0), 1)

    def test_cost_is_the_cost_of_the_row(self):
        source = random.Random(1)
        for _ in range(200):
            rule, asked = random_rule(source), [source.random() < 0.5 for _ in range(source.randrange(12))]
            look, toggle = source.randrange(1, 5), source.randrange(6)
            votes = [look if wanted else -look for wanted in asked]
            sides = rule_sides(rule, asked)
            self.assertEqual(rule_cost(rule, asked, look=look, toggle=toggle), row_cost(False, votes, toggle, sides))
            rows = ([True] * len(asked), [False] * len(asked), [not side for side in sides])
            self.assertEqual(
                side_costs(rule, asked, look=look, toggle=toggle),
                tuple(row_cost(False, votes, toggle, row) for row in rows))

    def test_foe(self):
        self.assertEqual(same_arguments(self, foe, ALWAYS, 3), [False] * 3)
        self.assertEqual(foe(SLOW, 7), [True, True, False, False, True, True, False])
        self.assertEqual(foe(SLOW, 0), [])
        source = random.Random(2)
        for _ in range(200):
            rule, length = random_rule(source), source.randrange(15)
            asked = foe(rule, length)
            self.assertEqual(len(asked), length)
            self.assertEqual([not wanted for wanted in asked], rule_sides(rule, asked))

    def test_side_costs_of_the_foe(self):
        source = random.Random(3)
        for _ in range(200):
            rule, length = random_rule(source), source.randrange(15)
            look, toggle = source.randrange(1, 5), source.randrange(6)
            asked = foe(rule, length)
            costs = side_costs(rule, asked, look=look, toggle=toggle)
            self.assertEqual(len(costs), 3)
            self.assertLessEqual(sum(costs), rule_cost(rule, asked, look=look, toggle=toggle) + 2 * toggle)

    def test_side_costs(self):
        self.assertEqual(side_costs(SLOW, [True, True, False, False, True], look=10, toggle=3), (23, 30, 9))
        self.assertEqual(side_costs(SLOW, [True, True, False, False, True]), (3, 3, 3))
        self.assertEqual(side_costs(SLOW, []), (0, 0, 0))
        self.assertIsInstance(side_costs(SLOW, []), tuple)

    def test_bad_rules(self):
        calls = (
            lambda rule: rule_sides(rule, [True]), lambda rule: rule_cost(rule, [], look=0),
            lambda rule: foe(rule, 2), lambda rule: foe(rule, 0), lambda rule: side_costs(rule, [True], toggle=-1))
        bad = (
            ([], 0), ([(True, 1, 0)], 0), ([(True, 0, 1)], 0), ([(True, -1, 0)], 0), ([(False, 0, -1)], 0),
            ([(True, 0, 1), (True, 2, 0), (True, 0, 9)], 2), ([(True, 0, 0), (True, 0, 2)], 1),
            ([(True, 0, 0), (True, 3, 0), (True, -1, 0)], 1))
        for call, (rule, index) in itertools.product(calls, bad):
            refused(self, BadRule, (index,), call, rule)

    def test_bad_prices(self):
        for call in (rule_cost, side_costs):
            refused(self, BadPrice, (0,), call, ALWAYS, [], look=0, toggle=-1)
            refused(self, BadPrice, (-3,), call, ALWAYS, [True], toggle=-3)

    def test_at_the_limits(self):
        rule = [(place % 2 == 0, (place + 1) % 60, (7 * place + 3) % 60) for place in range(60)]
        asked = foe(rule, 400)
        self.assertEqual([not wanted for wanted in asked], rule_sides(rule, asked))
        cost = rule_cost(rule, asked, look=GREAT, toggle=GREAT)
        self.assertGreaterEqual(cost, 400 * GREAT)
        self.assertLessEqual(sum(side_costs(rule, asked, look=GREAT, toggle=GREAT)), cost + 2 * GREAT)

    def test_what_is_returned_is_new(self):
        asked = [True, False]
        rule_sides(SLOW, asked).clear()
        foe(SLOW, 3).clear()
        self.assertEqual((rule_sides(SLOW, asked), foe(SLOW, 3), asked), ([False] * 2, [True, True, False], [True, False]))


if __name__ == "__main__":
    unittest.main()

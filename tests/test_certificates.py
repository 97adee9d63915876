"""Points 47 to 49: certificates."""

import random
import unittest

from livecopy.book import Book
from livecopy.certificates import Certificate, certificate, certify, check_certificate, counter_bound
from livecopy.counters import backward, solo_cost
from livecopy.errors import (
    BadCounter, BadPlan, BadPrice, BadRequest, LivecopyError, NotAVersion, NotBest, PriceClash)
from livecopy.exact import exact_cost, exact_plan
from livecopy.plans import best_plan, patch_bound
from livecopy.requests import plan_cost, votes
from tests.support import (
    EXAMPLE_REQUESTS, NO_VERSIONS, all_rows, chain_book, example_book, random_case, refused, same_arguments,
    wide_book)
from tests.test_counters import cases, cost_by_words


class CounterBoundTest(unittest.TestCase):

    def test_bounds(self):
        self.assertEqual(same_arguments(self, counter_bound, False, [3, -1, 1], 1, [1, 0, 1]), 1 + 0 + 1)
        self.assertEqual(counter_bound(True, [3, -1, 1], 1, [1, 0, 1]), 1)
        self.assertEqual(counter_bound(False, [-3, 1, -1], 1, [-1, 0, -1]), 0 + 1 + 0)
        self.assertEqual(counter_bound(False, [2], 9, [7]), 2)
        self.assertEqual(counter_bound(False, [8], 9, [7]), 7)
        self.assertEqual(counter_bound(False, [8], 9, [-7]), -7)
        self.assertEqual(counter_bound(False, [-2], 9, [7]), 0)
        self.assertEqual(counter_bound(False, [-2], 9, [-7]), -5)
        self.assertEqual(counter_bound(True, [-2], 9, [-7]), 2)
        self.assertEqual(counter_bound(False, [0], 9, [3]), 0)
        self.assertEqual(counter_bound(False, [0], 9, [-3]), -3)
        self.assertEqual(counter_bound(True, [5, 5], 9, [1, 4]), -3 + 4 - 1)

    def test_no_votes(self):
        for start in (True, False):
            self.assertEqual(counter_bound(start, [], 7, []), 0)

    def test_no_row_costs_less(self):
        source = random.Random(47)
        for start, asked, toggle in cases():
            costs = [cost_by_words(start, asked, toggle, row) for row in all_rows(len(asked))]
            for _ in range(5):
                numbers = [source.randint(-toggle, toggle) for _ in asked]
                self.assertLessEqual(counter_bound(start, asked, toggle, numbers), min(costs))

    def test_the_backward_numbers_give_the_solo_cost(self):
        for start, asked, toggle in cases():
            numbers = backward(asked, toggle)[:-1]
            self.assertEqual(same_arguments(self, counter_bound, start, asked, toggle, numbers),
                             solo_cost(start, asked, toggle))


class CertificateTest(unittest.TestCase):

    def test_fields_are_copies_through_and_through(self):
        plan, numbers = [(1,), ()], [[1, 0], [-1, -1]]
        made = same_arguments(self, Certificate, plan, numbers)
        self.assertEqual((made.plan, made.numbers), (plan, numbers))
        plan.append(())
        numbers[0].append(7)
        numbers[1][0] = 7
        numbers.append([])
        self.assertEqual((made.plan, made.numbers), ([(1,), ()], [[1, 0], [-1, -1]]))
        other = Certificate(made.plan, made.numbers)
        made.plan.clear()
        made.numbers[0].clear()
        self.assertEqual((other.plan, other.numbers), ([(1,), ()], [[1, 0], [-1, -1]]))

    def test_nothing_is_checked(self):
        made = Certificate([(9, 1)], [[5], [], [1, 2]])
        self.assertEqual((made.plan, made.numbers), ([(9, 1)], [[5], [], [1, 2]]))
        self.assertEqual((Certificate([], []).plan, Certificate([], []).numbers), ([], []))


class CertifyTest(unittest.TestCase):

    def test_the_worked_example(self):
        book = example_book()
        requests = list(EXAMPLE_REQUESTS)
        made = same_arguments(self, certificate, book, (), requests)
        self.assertEqual(made.plan, [(1, 2)] * 3)
        self.assertEqual(made.numbers, [[1, 0, 1], [1, 0, 1], [-1, 0, -1]])
        again = same_arguments(self, certify, book, (), requests, [(1, 2)] * 3)
        self.assertEqual((again.plan, again.numbers), (made.plan, made.numbers))
        self.assertEqual(check_certificate(book, (), requests, made), 5)
        refused(self, NotBest, (3,), certify, book, (), requests, [(1, 2), (3,), (1, 2)])
        refused(self, NotBest, (4,), certify, book, (), requests, [()] * 3)

    def test_without_requests_or_patches(self):
        made = certificate(chain_book(), (3,), [])
        self.assertEqual((made.plan, made.numbers), ([], [[], [], [], []]))
        self.assertEqual(check_certificate(chain_book(), (3,), [], made), 0)
        made = certificate(Book([0]), (), [((), 2)], toggle=[])
        self.assertEqual((made.plan, made.numbers), ([()], []))
        self.assertEqual(check_certificate(Book([0]), (), [((), 2)], made), 0)

    def test_best_plans_are_certified(self):
        for seed in range(120):
            book, versions, home, requests, source = random_case(self, seed)
            look, toggle = source.randrange(1, 4), source.randrange(7)
            made = same_arguments(self, certificate, book, home, requests, look=look, toggle=toggle)
            self.assertEqual(made.plan, best_plan(book, home, requests, look=look, toggle=toggle))
            self.assertEqual(made.numbers, [
                backward(votes(book, requests, number, look=look), toggle)[:-1] for number in book])
            bound = patch_bound(book, home, requests, look=look, toggle=toggle)
            self.assertEqual(same_arguments(
                self, check_certificate, book, home, requests, made, look=look, toggle=toggle), bound)
            plan = [source.choice(versions) for _ in requests]
            gap = plan_cost(book, home, requests, plan, look=look, toggle=toggle) - bound
            other = Certificate(plan, made.numbers)
            if gap > 0:
                refused(self, NotBest, (gap,), certify, book, home, requests, plan, look=look, toggle=toggle)
                refused(self, NotBest, (gap,), check_certificate, book, home, requests, other,
                        look=look, toggle=toggle)
            else:
                self.assertEqual(certify(book, home, requests, plan, look=look, toggle=toggle).plan, plan)
                self.assertEqual(check_certificate(book, home, requests, other, look=look, toggle=toggle), bound)

    def test_lists_of_prices(self):
        book = chain_book()
        requests = [((1, 2), 3), ((3,), 4), ((1, 4), 1)]
        for look, prices in ((2, [1, 2, 1, 50]), (100, [1, 50, 33, 0]), (1, [4, 4, 4, 4])):
            made = certificate(book, (4,), requests, look=look, toggle=prices)
            self.assertEqual(made.plan, best_plan(book, (4,), requests, look=look, toggle=prices))
            self.assertEqual(check_certificate(book, (4,), requests, made, look=look, toggle=prices),
                             patch_bound(book, (4,), requests, look=look, toggle=prices))
        refused(self, PriceClash, (1, 2, 3), certificate, book, (), requests, toggle=[1, 2, 1, 0])
        requests = [((3,), 4), ((1,), 3), ((3,), 4)]
        plan = exact_plan(book, (3,), requests, toggle=[1, 1, 2, 1])
        refused(self, NotBest, (1,), certify, book, (3,), requests, plan, toggle=[1, 1, 2, 1])

    def test_the_certificate_keeps_a_copy_of_the_plan(self):
        plan = [(1, 2)] * 3
        made = certify(example_book(), (), list(EXAMPLE_REQUESTS), plan)
        plan.clear()
        self.assertEqual(made.plan, [(1, 2)] * 3)

    def test_errors(self):
        book = chain_book()
        for bad in NO_VERSIONS:
            for call, rest in ((certify, [[(2,)]]), (certificate, [])):
                refused(self, NotAVersion, (bad,), call, book, bad, [((2,), 1)], *rest, look=0, toggle=-1)
                refused(self, BadRequest, (0,), call, book, (), [(bad, 1)], *rest, look=0, toggle=-1)
            refused(self, BadPlan, (0,), certify, book, (), [((1,), 9)], [bad], look=0, toggle=-1)
        refused(self, BadPlan, (1,), certify, book, (), [((1,), 9)], [(), ()], look=0, toggle=-1)
        refused(self, BadPlan, (0,), certify, book, (), [((1,), 9)], [], look=0, toggle=-1)
        for call, rest in ((certify, [[()]]), (certificate, [])):
            refused(self, BadRequest, (0,), call, book, (), [((), 0)], *rest, look=0, toggle=-1)
            refused(self, BadPrice, (0,), call, book, (), [((1,), 9)], *rest, look=0, toggle=-1)
            refused(self, BadPrice, (-1,), call, book, (), [((1,), 9)], *rest, toggle=-1)
            refused(self, BadPrice, (2,), call, book, (), [((1,), 9)], *rest, toggle=[-1, -2])
            refused(self, BadPrice, (-2,), call, book, (), [((1,), 9)], *rest, toggle=[1, -2, -3, 0])


class CheckTest(unittest.TestCase):

    def setUp(self):
        self.book = chain_book()
        self.requests = [((1, 2), 4), ((3,), 1)]
        self.made = certificate(self.book, (), self.requests, toggle=2)

    def check(self, error, fields, **named):
        named = {"toggle": 2, **named}
        before = list(self.made.plan), [list(row) for row in self.made.numbers]
        refused(self, error, fields, check_certificate, self.book, (), self.requests, self.made, **named)
        self.assertEqual((self.made.plan, self.made.numbers), before)

    def test_the_cost(self):
        self.assertEqual(self.made.plan, [(1, 2)] * 2)
        self.assertEqual(self.made.numbers, [[2, -1], [2, -1], [-2, 1], [-2, -1]])
        self.assertEqual(check_certificate(self.book, (), self.requests, self.made, toggle=2), 6 + 8)

    def test_fields_that_were_changed(self):
        self.made.plan[1] = (3,)
        self.check(NotBest, ((6 + 6 + 10) - 14,))
        self.made.plan[1] = (2,)
        self.check(BadPlan, (1,))
        self.made.plan[1:] = [(1, 2)]
        self.made.numbers[2] = [0, 0]
        # The bound loses what the numbers of patch 3 told: 5 for its look.
        self.check(NotBest, (5,))
        self.made.numbers[2] = [-2, 1]
        self.assertEqual(check_certificate(self.book, (), self.requests, self.made, toggle=2), 14)
        self.made.plan = [(1, 2)]
        self.check(BadPlan, (1,))
        self.made.plan = [(1, 2)] * 2
        self.made.numbers = []
        self.check(BadCounter, (1, 0))

    def test_numbers_out_of_the_range(self):
        for place in range(2):
            for entry in (3, -3, 10 ** 40, -10 ** 40):
                self.made.numbers[2][place] = entry
                self.check(BadCounter, (3, place))
            self.made.numbers[2][place] = 2
        self.made.numbers[3][1] = 9
        self.made.numbers[1] = [9, 9]
        self.check(BadCounter, (2, 0))
        prices = [2, 9, 2, 2]
        self.check(BadCounter, (4, 1), toggle=prices)

    def test_lists_of_a_wrong_length(self):
        self.made.numbers[3][1] = 9
        for row, index in (([], 0), ([9], 1), ([9, 9, 9], 2), ([0] * 9, 2)):
            self.made.numbers[2] = row
            self.check(BadCounter, (3, index))
        self.made.numbers[0][1] = 5
        self.check(BadCounter, (1, 1))

    def test_a_wrong_number_of_lists(self):
        self.made.numbers.append([9, 9])
        self.check(BadCounter, (5, 0))
        self.made.numbers.append([])
        self.check(BadCounter, (5, 0))
        self.made.numbers[3] = []
        self.check(BadCounter, (4, 0))
        self.made.numbers[2:] = []
        self.check(BadCounter, (3, 0))
        self.made.numbers[1][1] = 7
        self.check(BadCounter, (2, 1))
        self.made.numbers.clear()
        self.check(BadCounter, (1, 0))
        self.made.numbers = [[9, 9]]
        refused(self, BadCounter, (1, 0), check_certificate, Book([0]), (), [], Certificate([], [[9]]))

    def test_the_order_of_the_errors(self):
        self.made.numbers = [[9]]
        self.made.plan = [(2,)]
        for bad in NO_VERSIONS:
            refused(self, NotAVersion, (bad,), check_certificate, self.book, bad, [((2,), 1)], self.made, look=0)
            refused(self, BadRequest, (0,), check_certificate, self.book, (), [(bad, 1)], self.made, look=0)
        self.check(BadPlan, (0,), look=0, toggle=-1)
        self.made.plan = [(), (), ()]
        self.check(BadPlan, (2,), look=0, toggle=-1)
        self.made.plan = [(), ()]
        self.check(BadPrice, (0,), look=0, toggle=-1)
        self.check(BadPrice, (-1,), toggle=-1)
        self.check(BadPrice, (1,), toggle=[-1])
        self.check(BadPrice, (-1,), toggle=[0, 0, -1, -2])
        self.check(BadCounter, (1, 1))
        self.made.numbers = [[0, 0]] * 4
        self.check(NotBest, (4 * 3 + 5,))

    def test_other_numbers_may_show_it_too(self):
        book = wide_book(1)
        for entry in (2, 1):
            made = Certificate([(1,)], [[entry]])
            if entry == 2:
                self.assertEqual(check_certificate(book, (), [((1,), 9)], made, toggle=2), 2)
            else:
                refused(self, NotBest, (1,), check_certificate, book, (), [((1,), 9)], made, toggle=2)
        made = Certificate([()], [[-2]])
        self.assertEqual(check_certificate(book, (), [((), 9)], Certificate([()], [[0]]), toggle=2), 0)
        self.assertEqual(check_certificate(book, (), [((), 9)], made, toggle=2), 0)

    def test_what_is_let_is_best(self):
        for seed in range(150):
            book, versions, home, requests, source = random_case(self, seed, most=3, attempts=4)
            prices = [source.randrange(4) for _ in book]
            plan = [source.choice(versions) for _ in requests]
            numbers = [[source.randint(-price, price) for _ in requests] for price in prices]
            try:
                cost = check_certificate(book, home, requests, Certificate(plan, numbers), toggle=prices)
            except LivecopyError as error:
                self.assertIs(error.__class__, NotBest)
            else:
                self.assertEqual(cost, exact_cost(book, home, requests, toggle=prices))

    def test_great_numbers_at_the_limits(self):
        book = wide_book(200)
        requests = [(tuple(range(1 + place % 50, 150)), 10 ** 30 - place) for place in range(400)]
        prices = [10 ** 12 - number for number in book]
        made = certificate(book, (), requests, look=10 ** 12, toggle=prices)
        self.assertEqual(check_certificate(book, (), requests, made, look=10 ** 12, toggle=prices),
                         patch_bound(book, (), requests, look=10 ** 12, toggle=prices))


if __name__ == "__main__":
    unittest.main()

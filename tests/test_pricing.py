"""Points 39 and 40: prices that fit."""

import itertools
import random
import unittest

from livecopy.book import Book
from livecopy.errors import BadPrice
from livecopy.pricing import price_clash, stretches
from tests.support import chain_book, random_book, refused, same_arguments, wide_book


def clash_by_words(book, look, prices):
    """The triple of point 40, by trying all pairs and all multiples."""
    for first, second in itertools.combinations(book, 2):
        if book.relation(first, second) == "independent":
            continue
        low, high = sorted((2 * prices[first - 1], 2 * prices[second - 1]))
        between = [multiple for multiple in range(0, high, look) if multiple > low]
        if between:
            return first, second, between[0]
    return None


class StretchesTest(unittest.TestCase):

    def test_one_or_two(self):
        self.assertEqual(stretches(1, 0), (0,))
        self.assertEqual(stretches(1, 1), (1, 2))
        self.assertEqual(stretches(2, 1), (0, 1))
        self.assertEqual(stretches(3, 1), (0,))
        self.assertEqual(stretches(3, 2), (1,))
        self.assertEqual(stretches(4, 7), (3,))
        self.assertEqual(stretches(7, 0), (0,))
        self.assertEqual(stretches(10 ** 12, 5 * 10 ** 41), (10 ** 30 - 1, 10 ** 30))

    def test_by_words(self):
        for look, toggle in itertools.product(range(1, 9), range(20)):
            expected = tuple(k for k in range(50) if k * look <= 2 * toggle <= (k + 1) * look)
            self.assertEqual(stretches(look, toggle), expected)

    def test_errors(self):
        for look in (0, -1, -10 ** 12):
            refused(self, BadPrice, (look,), stretches, look, -3)
        for toggle in (-1, -10 ** 12):
            refused(self, BadPrice, (toggle,), stretches, 1, toggle)


class PriceClashTest(unittest.TestCase):

    def test_prices_that_fit(self):
        book = chain_book()
        for toggle in (0, 1, 7, [7] * 4, [1, 1, 1, 99], [0, 0, 0, 5]):
            self.assertIsNone(same_arguments(self, price_clash, book, toggle=toggle))
        self.assertIsNone(price_clash(book, look=2, toggle=[1, 2, 1, 50]))
        self.assertIsNone(price_clash(book, look=100, toggle=[1, 50, 33, 0]))
        self.assertIsNone(price_clash(Book([0]), toggle=[]))
        self.assertIsNone(price_clash(wide_book(3), toggle=[1, 20, 300]))

    def test_clashes(self):
        book = chain_book()
        self.assertEqual(same_arguments(self, price_clash, book, toggle=[1, 2, 1, 0]), (1, 2, 3))
        self.assertEqual(price_clash(book, toggle=[1, 1, 0, 0]), (1, 3, 1))
        self.assertEqual(price_clash(book, toggle=[0, 0, 9, 0]), (1, 3, 1))
        self.assertEqual(price_clash(book, look=100, toggle=[50, 50, 101, 0]), (1, 3, 200))
        self.assertEqual(price_clash(book, look=100, toggle=[50, 101, 49, 0]), (1, 2, 200))
        self.assertEqual(price_clash(book, look=2, toggle=[3, 2, 4, 0]), (2, 3, 6))

    def test_multiples_on_the_edge(self):
        book = chain_book()
        # The doubled prices are 4 and 6: a multiple of 2 or 3 that is one of them does not count.
        self.assertIsNone(price_clash(book, look=2, toggle=[2, 3, 2, 0]))
        self.assertIsNone(price_clash(book, look=3, toggle=[2, 3, 3, 0]))
        self.assertEqual(price_clash(book, look=5, toggle=[2, 3, 3, 0]), (1, 2, 5))
        self.assertEqual(price_clash(book, look=1, toggle=[2, 3, 3, 0]), (1, 2, 5))

    def test_patches_that_are_related_from_afar(self):
        book = chain_book()
        book.make_patch([(2, 5)], requires=(2, 4))
        self.assertEqual(price_clash(book, look=2, toggle=[5, 5, 5, 5, 7]), (1, 5, 12))
        self.assertEqual(price_clash(book, look=2, toggle=[5, 5, 5, 5, 3]), (1, 5, 8))

    def test_by_words(self):
        for seed in range(200):
            book, _ = random_book(self, seed)
            source = random.Random(seed)
            look = source.randrange(1, 9)
            prices = [source.randrange(source.choice((2, 5, 12))) for _ in book]
            self.assertEqual(price_clash(book, look=look, toggle=prices), clash_by_words(book, look, prices))

    def test_bad_prices(self):
        book = chain_book()
        for look in (0, -1, -10 ** 12):
            refused(self, BadPrice, (look,), price_clash, book, look=look, toggle=-7)
            refused(self, BadPrice, (look,), price_clash, book, look=look, toggle=[1])
        refused(self, BadPrice, (-7,), price_clash, book, toggle=-7)
        refused(self, BadPrice, (-7,), price_clash, Book([0]), toggle=-7)
        refused(self, BadPrice, (-2,), price_clash, book, toggle=[9, -2, -3, 0])
        for prices in ([], [-1, 1, 1], [1, 2, 1, 0, -1]):
            refused(self, BadPrice, (len(prices),), price_clash, book, toggle=prices)
        refused(self, BadPrice, (1,), price_clash, Book([0]), toggle=[5])


if __name__ == "__main__":
    unittest.main()

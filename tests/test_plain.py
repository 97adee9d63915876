"""Point 15: reading without a live copy."""

import unittest

from livecopy.book import Book
from livecopy.errors import BadCell, NotAVersion
from livecopy.plain import row_of, value_at, writers
from tests.support import NO_VERSIONS, chain_book, random_book, refused, same_arguments


class PlainTest(unittest.TestCase):

    def test_writers(self):
        book = chain_book()
        self.assertEqual(same_arguments(self, writers, book, (1, 2, 4), 0), (1, 2))
        self.assertEqual(writers(book, (1, 2, 4), 1), (2,))
        self.assertEqual(writers(book, (1, 4), 1), ())
        self.assertEqual(writers(book, (), 0), ())

    def test_values(self):
        book = chain_book()
        self.assertEqual(same_arguments(self, value_at, book, (1, 2), 0), 12)
        self.assertEqual([value_at(book, (1,), cell) for cell in range(3)], [11, 20, 30])
        self.assertEqual([value_at(book, (), cell) for cell in range(3)], [10, 20, 30])
        self.assertEqual([value_at(book, (3, 4), cell) for cell in range(3)], [13, 20, 34])

    def test_rows(self):
        book = chain_book()
        self.assertEqual(same_arguments(self, row_of, book, ()), [10, 20, 30])
        self.assertEqual(row_of(book, (1, 2, 4)), [12, 22, 34])

    def test_a_long_chain_of_writers(self):
        book = Book([-10 ** 60])
        for number in range(1, 51):
            book.make_patch([(0, number * 10 ** 58)], requires=(number - 1,) if number > 1 else ())
        version = tuple(range(1, 51))
        self.assertEqual(writers(book, version, 0), version)
        self.assertEqual(value_at(book, version, 0), 50 * 10 ** 58)
        self.assertEqual(value_at(book, version[:20], 0), 20 * 10 ** 58)

    def test_errors(self):
        book = chain_book()
        for bad in NO_VERSIONS:
            refused(self, NotAVersion, (bad,), writers, book, bad, -1)
            refused(self, NotAVersion, (bad,), value_at, book, bad, -1)
            refused(self, NotAVersion, (bad,), row_of, book, bad)
        for cell in (-1, -3, 3, 10 ** 40, -10 ** 40):
            refused(self, BadCell, (cell,), writers, book, (1,), cell)
            refused(self, BadCell, (cell,), value_at, book, (), cell)

    def test_the_row_is_new(self):
        book = chain_book()
        row_of(book, ()).clear()
        row_of(book, (1,))[0] = 7
        self.assertEqual((row_of(book, ()), row_of(book, (1,)), book.base_row()),
                         ([10, 20, 30], [11, 20, 30], [10, 20, 30]))

    def test_random_books(self):
        for seed in range(80):
            book, model = random_book(self, seed)
            for version in model.versions():
                row = model.row(version)
                self.assertEqual(row_of(book, version), row)
                for cell in range(book.cells):
                    self.assertEqual(value_at(book, version, cell), row[cell])
                    self.assertEqual(writers(book, version, cell), model.writers(version, cell))


if __name__ == "__main__":
    unittest.main()

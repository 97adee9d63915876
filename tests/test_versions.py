"""Points 10 to 13: versions."""

import itertools
import unittest

from livecopy.book import Book
from livecopy.errors import Conflict, NotAVersion, NotInside, TooMany, UnknownPatch
from livecopy.versions import all_versions, clamp, difference, join, median, meet, version_of, without
from tests.support import (
    NO_VERSIONS, chain_book, least_clash, random_book, refused, same_arguments, snapshot, wide_book,
)

UNKNOWN = (0, -1, -4, 5, 10 ** 40, -10 ** 40)


class VersionTest(unittest.TestCase):

    def test_which_tuples_are_versions(self):
        for seed in range(60):
            book, model = random_book(self, seed, attempts=6)
            for many in range(len(book) + 1):
                for numbers in itertools.combinations(book, many):
                    self.assertIs(numbers in book, model.is_version(numbers))

    def test_a_version_stays_a_version(self):
        book = Book([0] * 3)
        versions = [()]
        for writes, requires in (((0, 1), ()), ((1, 1), (1,)), ((0, 2), ()), ((2, 2), (3,)), ((1, 5), ())):
            book.make_patch([writes], requires=requires)
            for version in versions:
                self.assertIn(version, book)
            versions = all_versions(book)

    def test_every_function_refuses_tuples_that_are_no_versions(self):
        book = chain_book()
        before = snapshot(book)
        for bad in NO_VERSIONS:
            for function in (join, meet):
                refused(self, NotAVersion, (bad,), function, book, bad, (9,))
                refused(self, NotAVersion, (bad,), function, book, (), bad)
            refused(self, NotAVersion, (bad,), without, book, bad, (9,))
            for function in (median, clamp):
                refused(self, NotAVersion, (bad,), function, book, bad, (9,), (8,))
                refused(self, NotAVersion, (bad,), function, book, (1,), bad, (8,))
                refused(self, NotAVersion, (bad,), function, book, (1,), (), bad)
        self.assertEqual(snapshot(book), before)


class VersionOfTest(unittest.TestCase):

    def test_what_the_patches_require_is_added(self):
        book = chain_book()
        self.assertEqual(same_arguments(self, version_of, book, (4, 2, 4)), (1, 2, 4))
        self.assertEqual(version_of(book, ()), ())
        self.assertEqual(version_of(book, (1,)), (1,))

    def test_unknown_patches(self):
        book = chain_book()
        for number in UNKNOWN:
            refused(self, UnknownPatch, (number,), version_of, book, (1, 3, number, 77))

    def test_the_least_pair_of_a_conflict(self):
        book = chain_book()
        refused(self, Conflict, (1, 3), version_of, book, (3, 2))
        book = Book([0] * 6)
        book.make_patch([(0, 1)])
        book.make_patch([(1, 1)])
        book.make_patch([(2, 1)], conflicts=(2,))
        book.make_patch([(3, 1)], conflicts=(1,))
        book.make_patch([(4, 1)], conflicts=(1,))
        refused(self, Conflict, (1, 4), version_of, book, (5, 3, 4, 2, 1))
        refused(self, Conflict, (1, 5), version_of, book, (5, 3, 2, 1))
        refused(self, Conflict, (2, 3), version_of, book, (5, 3, 4, 2))

    def test_random_books(self):
        for seed in range(60):
            book, model = random_book(self, seed, attempts=6)
            for many in range(len(book) + 1):
                for numbers in itertools.combinations(book, many):
                    whole = model.closure(numbers)
                    clash = least_clash(model.pairs, whole)
                    if clash is None:
                        self.assertEqual(version_of(book, numbers[::-1]), tuple(sorted(whole)))
                    else:
                        refused(self, Conflict, clash, version_of, book, numbers)


class TwoVersionsTest(unittest.TestCase):

    def test_join(self):
        book = chain_book()
        self.assertEqual(same_arguments(self, join, book, (1, 2), (4,)), (1, 2, 4))
        self.assertEqual(join(book, (3,), (4,)), (3, 4))
        self.assertEqual(join(book, (1, 2), (1, 4)), (1, 2, 4))
        self.assertEqual(join(book, (), ()), ())

    def test_the_least_pair_of_a_join(self):
        book = chain_book()
        refused(self, Conflict, (1, 3), join, book, (3, 4), (1, 2))
        book = Book([0] * 6)
        book.make_patch([(0, 1)])
        book.make_patch([(1, 1)])
        book.make_patch([(2, 1)], conflicts=(2,))
        book.make_patch([(3, 1)], conflicts=(2, 1))
        refused(self, Conflict, (1, 4), join, book, (3, 4), (1, 2))
        refused(self, Conflict, (2, 3), join, book, (2,), (3, 4))
        refused(self, Conflict, (2, 4), join, book, (4,), (2,))

    def test_meet(self):
        book = chain_book()
        self.assertEqual(same_arguments(self, meet, book, (1, 2, 4), (1, 4)), (1, 4))
        self.assertEqual(meet(book, (1, 2), (3, 4)), ())

    def test_random_pairs(self):
        for seed in range(40):
            book, model = random_book(self, seed)
            versions = model.versions()
            for first, second in itertools.product(versions, versions):
                self.assertEqual(meet(book, first, second), tuple(sorted(set(first) & set(second))))
                union = tuple(sorted(set(first) | set(second)))
                clash = least_clash(model.pairs, union)
                if clash is None:
                    self.assertEqual(join(book, first, second), union)
                else:
                    refused(self, Conflict, clash, join, book, first, second)

    def test_difference(self):
        self.assertEqual(same_arguments(self, difference, (1, 2, 5), (2, 3)), (1, 3, 5))
        self.assertEqual(difference((), ()), ())
        self.assertEqual(difference((), (4,)), (4,))
        self.assertEqual(difference((7, 9), (7, 9)), ())
        self.assertEqual(difference((-10 ** 50, -2, -1, 0, 3), (-2, 3, 10 ** 50)), (-10 ** 50, -1, 0, 10 ** 50))


class WithoutTest(unittest.TestCase):

    def test_patches_and_what_requires_them_are_dropped(self):
        book = chain_book()
        self.assertEqual(same_arguments(self, without, book, (1, 2, 4), (1,)), (4,))
        self.assertEqual(without(book, (1, 2, 4), (2, 2)), (1, 4))
        self.assertEqual(without(book, (1, 2, 4), ()), (1, 2, 4))
        self.assertEqual(without(book, (1, 2, 4), (4, 3, 3)), (1, 2))
        self.assertEqual(without(book, (), (1, 2, 3, 4)), ())

    def test_errors(self):
        book = chain_book()
        for number in UNKNOWN:
            refused(self, UnknownPatch, (number,), without, book, (1, 2), (1, number, 77))
            refused(self, NotAVersion, ((2,),), without, book, (2,), (number,))

    def test_it_is_the_greatest_version_without_them(self):
        for seed in range(30):
            book, model = random_book(self, seed)
            versions = model.versions()
            for version in versions:
                for dropped in itertools.chain([()], [(n,) for n in book], itertools.combinations(book, 2)):
                    inside = [v for v in versions if set(v) <= set(version) and not set(v) & set(dropped)]
                    self.assertEqual(without(book, version, dropped[::-1]), max(inside, key=len))


class ThreeVersionsTest(unittest.TestCase):

    def test_median(self):
        book = chain_book()
        self.assertEqual(same_arguments(self, median, book, (1, 2), (3, 4), (1, 4)), (1, 4))
        self.assertEqual(median(book, (1, 2), (3,), (4,)), ())
        self.assertEqual(median(book, (1, 2), (), (1, 2, 4)), (1, 2))

    def test_clamp(self):
        book = chain_book()
        self.assertEqual(same_arguments(self, clamp, book, (1,), (1, 2, 4), (4,)), (1, 4))
        self.assertEqual(clamp(book, (), (1, 2), (3, 4)), ())
        self.assertEqual(clamp(book, (4,), (4,), (1, 2)), (4,))
        self.assertEqual(clamp(book, (1,), (1, 2), (1, 2, 4)), (1, 2))

    def test_low_must_be_inside_high(self):
        book = chain_book()
        refused(self, NotInside, ((1, 4), (1, 2)), clamp, book, (1, 4), (1, 2), ())
        refused(self, NotInside, ((1,), ()), clamp, book, (1,), (), (3,))
        refused(self, NotAVersion, ((2,),), clamp, book, (1,), (), (2,))

    def test_random_triples(self):
        for seed in range(12):
            book, model = random_book(self, seed)
            versions = model.versions()[:14]
            for first, second, third in itertools.product(versions, repeat=3):
                one, two, three = set(first), set(second), set(third)
                middle = (one & two) | (one & three) | (two & three)
                self.assertEqual(median(book, first, second, third), tuple(sorted(middle)))
                self.assertTrue(model.is_version(middle))
                if one <= two:
                    between = [v for v in model.versions() if one <= set(v) <= two]
                    nearest = min(between, key=lambda v: len(set(v) ^ three))
                    self.assertEqual(clamp(book, first, second, third), nearest)
                else:
                    refused(self, NotInside, (first, second), clamp, book, first, second, third)


class AllVersionsTest(unittest.TestCase):

    def test_the_order(self):
        book = chain_book()
        self.assertEqual(all_versions(book), [(), (1,), (3,), (4,), (1, 2), (1, 4), (3, 4), (1, 2, 4)])
        self.assertEqual(all_versions(Book([0])), [()])

    def test_random_books(self):
        for seed in range(100):
            book, model = random_book(self, seed)
            self.assertEqual(all_versions(book, 256), model.versions())

    def test_limits(self):
        book = chain_book()
        self.assertEqual(len(all_versions(book, 8)), 8)
        self.assertEqual(len(all_versions(book, limit=9)), 8)
        self.assertEqual(len(all_versions(book, 10 ** 30)), 8)
        for limit in (1, 2, 7):
            refused(self, TooMany, (limit,), all_versions, book, limit)
        self.assertEqual(all_versions(Book([0]), 1), [()])

    def test_the_default_limit_is_64(self):
        self.assertEqual(len(all_versions(wide_book(6))), 64)
        refused(self, TooMany, (64,), all_versions, wide_book(7))
        self.assertEqual(len(all_versions(wide_book(7), 128)), 128)

    def test_it_stops_early(self):
        book = wide_book(60)
        refused(self, TooMany, (64,), all_versions, book)
        refused(self, TooMany, (1000,), all_versions, book, 1000)

    def test_a_long_book_with_few_versions(self):
        book = Book([0])
        for number in range(1, 201):
            book.make_patch([(0, number)], requires=tuple(range(1, number)))
        self.assertEqual(all_versions(book, 201), [tuple(range(1, k + 1)) for k in range(201)])
        refused(self, TooMany, (200,), all_versions, book, 200)

    def test_the_list_is_new(self):
        book = chain_book()
        all_versions(book).clear()
        self.assertEqual(len(all_versions(book)), 8)


if __name__ == "__main__":
    unittest.main()

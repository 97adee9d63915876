"""Point 22: ways."""

import itertools
import unittest

from livecopy.errors import NotAVersion
from livecopy.live import LiveCopy
from livecopy.ways import between, is_way, steps, way
from tests.support import NO_VERSIONS, chain_book, random_book, refused, same_arguments


class WaysTest(unittest.TestCase):

    def test_steps(self):
        book = chain_book()
        self.assertEqual(list(steps(book, (1, 2, 4), (3,))), [(4, False), (2, False), (1, False), (3, True)])
        self.assertEqual(list(steps(book, (4,), (1, 2, 4))), [(1, True), (2, True)])
        self.assertEqual(list(steps(book, (1,), (1,))), [])

    def test_steps_are_the_toggles_of_lead(self):
        for seed in range(20):
            book, model = random_book(self, seed)
            for start, goal in itertools.product(model.versions(), repeat=2):
                copy = LiveCopy(book, start)
                made = list(steps(book, start, goal))
                self.assertEqual([copy.toggle(number) for number, _ in made], [on for _, on in made])
                self.assertEqual(copy.home, goal)
                self.assertEqual([number for number, _ in made], LiveCopy(book, start).lead(goal))

    def test_the_errors_of_steps_are_raised_when_the_iteration_begins(self):
        book = chain_book()
        for bad in NO_VERSIONS:
            for start, goal in ((bad, (9,)), ((1,), bad)):
                generator = steps(book, start, goal)
                refused(self, NotAVersion, (bad,), next, generator)

    def test_way(self):
        book = chain_book()
        self.assertEqual(same_arguments(self, way, book, (1, 2, 4), (3,)), [(1, 2, 4), (1, 2), (1,), (), (3,)])
        self.assertEqual(way(book, (3, 4), (3, 4)), [(3, 4)])
        self.assertEqual(way(book, (), ()), [()])
        for bad in NO_VERSIONS:
            refused(self, NotAVersion, (bad,), way, book, bad, (9,))
            refused(self, NotAVersion, (bad,), way, book, (), bad)

    def test_random_ways(self):
        for seed in range(20):
            book, model = random_book(self, seed)
            versions = model.versions()
            for start, goal in itertools.product(versions, repeat=2):
                found = way(book, start, goal)
                self.assertEqual((found[0], found[-1]), (start, goal))
                self.assertEqual(len(found), len(set(start) ^ set(goal)) + 1)
                self.assertIs(is_way(book, found), True)
                for version in found:
                    self.assertIs(between(book, start, goal, version), True)

    def test_is_way(self):
        book = chain_book()
        for versions in ([()], [(1, 2)], [(), (1,), (1, 2), (1,)], [(), (4,), ()], [(1, 2, 4), (1, 4), (4,), (3, 4)]):
            self.assertIs(same_arguments(self, is_way, book, versions), True)
        for versions in ([], [(), ()], [(1, 2), ()], [(1,), (3,)], [(), (1,), (1,)], [(1,), (4,)], [(), (1,), (3, 4)]):
            self.assertIs(same_arguments(self, is_way, book, versions), False)

    def test_lists_with_tuples_that_are_no_versions(self):
        book = chain_book()
        for bad in NO_VERSIONS:
            self.assertIs(is_way(book, [bad]), False)
            self.assertIs(is_way(book, [(), (1,), bad]), False)
            self.assertIs(is_way(book, [bad, (1,)]), False)
        self.assertIs(is_way(book, [(3,), (1, 3), (1,)]), False)

    def test_between(self):
        book = chain_book()
        self.assertIs(same_arguments(self, between, book, (1, 2), (1, 4), (1,)), True)
        self.assertIs(between(book, (1, 2), (1, 4), (1, 2, 4)), True)
        self.assertIs(between(book, (1, 2), (1, 4), (4,)), False)
        self.assertIs(between(book, (1,), (1, 2), (1, 4)), False)
        self.assertIs(between(book, (1, 2), (3,), ()), True)
        self.assertIs(between(book, (), (), (4,)), False)
        for bad in NO_VERSIONS:
            refused(self, NotAVersion, (bad,), between, book, bad, (9,), (8,))
            refused(self, NotAVersion, (bad,), between, book, (1,), bad, (8,))
            refused(self, NotAVersion, (bad,), between, book, (1,), (2, 1)[1:], bad)

    def test_between_by_the_lengths_of_the_ways(self):
        for seed in range(12):
            book, model = random_book(self, seed)
            versions = model.versions()[:16]
            for first, second, version in itertools.product(versions, repeat=3):
                detour = len(set(first) ^ set(version)) + len(set(version) ^ set(second))
                shortest = len(set(first) ^ set(second))
                self.assertIs(between(book, first, second, version), detour == shortest)


if __name__ == "__main__":
    unittest.main()

"""Points 26 to 28: collecting."""

import random
import unittest

from livecopy.book import Book
from livecopy.collect import collect, collect_copy, living_range
from livecopy.errors import NotAVersion, NoVersions
from livecopy.live import LiveCopy
from livecopy.plain import row_of
from livecopy.subbook import translate
from tests.support import NO_VERSIONS, chain_book, random_book, refused, same_arguments, snapshot
from tests.test_live import state_of
from tests.test_subbook import check_same_patches


class LivingRangeTest(unittest.TestCase):

    def test_ranges(self):
        book = chain_book()
        self.assertEqual(same_arguments(self, living_range, book, [(1, 2), (1, 4), (1, 2)]), ((1,), (1, 2, 4)))
        self.assertEqual(living_range(book, [(1, 2)]), ((1, 2), (1, 2)))
        self.assertEqual(living_range(book, [(3,), (1, 2)]), ((), (1, 2, 3)))
        self.assertEqual(living_range(book, [()]), ((), ()))

    def test_errors(self):
        book = chain_book()
        copy = LiveCopy(book, (1,))
        copy.hold()
        before = snapshot(book), state_of(copy)
        for call, owner in ((living_range, book), (collect, book), (collect_copy, copy)):
            refused(self, NoVersions, (), call, owner, [])
            for bad in NO_VERSIONS:
                refused(self, NotAVersion, (bad,), call, owner, [(1,), bad, (77,)])
        self.assertEqual((snapshot(book), state_of(copy)), before)


class CollectTest(unittest.TestCase):

    def test_what_is_common_becomes_the_base(self):
        book = chain_book()
        new, numbers = same_arguments(self, collect, book, [(1, 2), (1, 4), (1, 4)])
        self.assertEqual((new.base_row(), numbers), ([11, 20, 30], {2: 1, 4: 2}))
        self.assertEqual([new.writes_of(n) for n in new], [[(0, 12), (1, 22)], [(2, 34)]])
        self.assertEqual([(new.required(n), new.conflicting(n)) for n in new], [((), ()), ((), ())])

    def test_one_living_version(self):
        new, numbers = collect(chain_book(), [(1, 2, 4)])
        self.assertEqual((new.base_row(), len(new), numbers), ([12, 22, 34], 0, {}))

    def test_nothing_in_common(self):
        book = chain_book()
        new, numbers = collect(book, [(), (3,), (1, 2)])
        self.assertEqual((new.base_row(), numbers), ([10, 20, 30], {1: 1, 2: 2, 3: 3}))
        self.assertEqual(new.conflicting(3), (1, 2))

    def test_the_books_do_not_change_each_other(self):
        book = chain_book()
        before = snapshot(book)
        new, numbers = collect(book, [(1,), (1, 2)])
        new.make_patch([(0, 5)])
        numbers.clear()
        self.assertEqual(snapshot(book), before)
        book.make_patch([(0, 7)])
        self.assertEqual((len(new), new.base_row()), (2, [11, 20, 30]))

    def test_random_books(self):
        for seed in range(120):
            book, model = random_book(self, seed)
            before = snapshot(book)
            source = random.Random(seed)
            versions = model.versions()
            living = [source.choice(versions) for _ in range(source.randrange(1, 5))]
            common = set(living[0]).intersection(*living)
            some = set().union(*living)
            self.assertEqual(living_range(book, living), (tuple(sorted(common)), tuple(sorted(some))))
            new, numbers = collect(book, living)
            self.assertEqual(numbers, {old: place + 1 for place, old in enumerate(sorted(some - common))})
            self.assertEqual(new.base_row(), model.row(common))
            check_same_patches(self, book, new, numbers)
            for version in living:
                self.assertEqual(row_of(new, translate(numbers, version)), model.row(version))
            home = source.choice(versions)
            copy = LiveCopy(book, home)
            copy.hold()
            state = state_of(copy)
            moved, moved_numbers = collect_copy(copy, living)
            self.assertEqual((moved_numbers, snapshot(moved.book)), (numbers, snapshot(new)))
            self.assertEqual((moved.home, moved.pins), (translate(numbers, home), 0))
            self.assertEqual(list(moved), model.row(common | (set(home) & some)))
            self.assertEqual((state_of(copy), snapshot(book)), (state, before))
            self.assertIs(copy.book, book)


class CollectCopyTest(unittest.TestCase):

    def test_the_new_copy_moves_alone(self):
        book = Book([0, 0])
        book.make_patch([(0, 1)])
        book.make_patch([(1, 2)])
        copy = LiveCopy(book, (2,))
        copy.hold()
        new, numbers = same_arguments(self, collect_copy, copy, [(1,), (1, 2)])
        self.assertEqual((numbers, new.home, new.pins, list(new)), ({2: 1}, (1,), 0, [1, 2]))
        self.assertIs(new.toggle(1), False)
        self.assertEqual((copy.home, copy.pins, list(copy)), ((2,), 1, [0, 2]))
        copy.release()
        copy.lead(())
        self.assertEqual((new.home, list(new)), ((), [1, 0]))


if __name__ == "__main__":
    unittest.main()

"""Point 70: movers, each by itself on a copy."""

import random
import unittest

from livecopy.book import Book
from livecopy.errors import BadBound, BadPlan, BadPrice, CopyPinned
from livecopy.keeper import Keeper
from livecopy.live import LiveCopy, Pin
from livecopy.movers import Follow, Kept, Mover, Planned, Toggles
from livecopy.ways import steps
from tests.support import NO_VERSIONS, chain_book, example_book, random_case, refused, same_arguments, wide_book


def chain_copy(home=()):
    return LiveCopy(chain_book(), home)


class MoverTest(unittest.TestCase):

    def check_moved(self, copy, call, version, index, toggled, home):
        """Check what a method of a mover returns, and where it leads the copy."""
        found = same_arguments(self, call, copy, version, index)
        self.assertEqual((found, found.__class__, copy.home), (toggled, list, home))

    def test_a_mover_never_moves(self):
        mover, copy = Mover(), chain_copy((1,))
        for index in (0, 3):
            self.check_moved(copy, mover.before, (3,), index, [], (1,))
            self.check_moved(copy, mover.after, (3,), index, [], (1,))

    def test_all_are_movers(self):
        for mover in (Follow(), Kept(1), Planned([]), Toggles([])):
            self.assertIsInstance(mover, Mover)
            self.assertIs(mover.__class__.__bases__[0], Mover)

    def test_follow(self):
        mover, copy = Follow(), chain_copy((1, 2))
        self.check_moved(copy, mover.before, (3, 4), 0, [2, 1, 3, 4], (3, 4))
        self.check_moved(copy, mover.after, (3, 4), 0, [], (3, 4))
        self.check_moved(copy, mover.before, (3, 4), 1, [], (3, 4))
        self.check_moved(copy, mover.after, (1,), 1, [], (3, 4))

    def test_planned(self):
        mover, copy = Planned([(1,), (3,), (1, 2)]), chain_copy()
        self.check_moved(copy, mover.before, (4,), 0, [1], (1,))
        self.check_moved(copy, mover.after, (4,), 0, [], (1,))
        self.check_moved(copy, mover.before, (4,), 2, [2], (1, 2))
        self.check_moved(copy, mover.before, (), 3, [], (1, 2))
        self.check_moved(copy, mover.before, (), 1000, [], (1, 2))
        self.check_moved(copy, mover.before, (), 1, [2, 1, 3], (3,))

    def test_planned_entries_that_are_no_versions(self):
        for version in NO_VERSIONS:
            copy = chain_copy((4,))
            mover = Planned([(1,), version])
            refused(self, BadPlan, (1,), mover.before, copy, (), 1)
            with Pin(copy):
                refused(self, BadPlan, (1,), mover.before, copy, (), 1)
            self.assertEqual(copy.home, (4,))
            self.check_moved(copy, mover.before, (), 0, [4, 1], (1,))

    def test_planned_entries_are_versions_at_the_moment(self):
        book = chain_book()
        mover, copy = Planned([(1, 5)]), LiveCopy(book)
        refused(self, BadPlan, (0,), mover.before, copy, (), 0)
        book.make_patch([(2, 9)], requires=(1,))
        self.check_moved(copy, mover.before, (), 0, [1, 5], (1, 5))

    def test_planned_homes_are_copied(self):
        homes = [(1,), ()]
        mover, copy = Planned(homes), chain_copy()
        homes[0] = (3,)
        homes.clear()
        self.check_moved(copy, mover.before, (), 0, [1], (1,))
        mover.before(copy, (), 0).append(7)
        self.check_moved(copy, mover.before, (), 0, [], (1,))

    def test_toggles(self):
        mover, copy = Toggles([[2, 1, 2, 3, 1], [], [4, 4, 9, 0, -1, 10 ** 40], [1, 2, 1, 3]]), chain_copy()
        # Patch 2 misses 1 at first, 3 conflicts, and 1 is required by 2 at last.
        self.check_moved(copy, mover.before, (), 0, [1, 2], (1, 2))
        self.check_moved(copy, mover.after, (), 0, [], (1, 2))
        self.check_moved(copy, mover.before, (), 1, [], (1, 2))
        self.check_moved(copy, mover.before, (), 2, [4, 4], (1, 2))
        self.check_moved(copy, mover.before, (), 3, [2, 1, 3], (3,))
        self.check_moved(copy, mover.before, (), 4, [], (3,))

    def test_toggles_copies_its_lists(self):
        lists = [[1], [4]]
        mover, copy = Toggles(lists), chain_copy()
        lists[0].clear()
        lists[1].append(3)
        lists.clear()
        self.check_moved(copy, mover.before, (), 0, [1], (1,))
        self.check_moved(copy, mover.before, (), 1, [4], (1, 4))

    def test_kept_is_a_keeper(self):
        for seed in range(80):
            book, versions, home, requests, source = random_case(self, seed, most=15)
            bound, look, toggle = source.randrange(1, 4), source.randrange(1, 4), source.randrange(4)
            mover, keeper = Kept(bound, look, toggle), Keeper(book, (), bound=bound, look=look, toggle=toggle)
            copy = LiveCopy(book, home)
            for index, (version, _) in enumerate(requests):
                self.check_moved(copy, mover.before, version, index, [], copy.home)
                start = copy.home
                keeper.request(version)
                toggled = [number for number, _ in steps(book, start, keeper.home)]
                self.check_moved(copy, mover.after, version, index, toggled, keeper.home)
                if source.random() < 0.2:
                    # The copy is led from where it stands.
                    copy.lead(source.choice(versions))

    def test_kept_follows_the_worked_example(self):
        mover, copy = Kept(2), LiveCopy(example_book())
        moved = [mover.after(copy, version, 0) for version in ((1, 2), (1, 2), (3,), (1, 2), (3,), (3,), (3,))]
        self.assertEqual(moved, [[], [1, 2], [], [], [], [2, 1, 3], []])

    def test_kept_hears_a_book_that_grows(self):
        book = chain_book()
        mover, copy = Kept(1), LiveCopy(book)
        self.check_moved(copy, mover.after, (1,), 0, [1], (1,))
        book.make_patch([(2, 1)], requires=(1,))
        self.check_moved(copy, mover.after, (1, 5), 1, [5], (1, 5))

    def test_pinned_copies(self):
        copy = chain_copy((1,))
        with Pin(copy):
            self.check_moved(copy, Mover().before, (3,), 0, [], (1,))
            refused(self, CopyPinned, (), Follow().before, copy, (3,), 0)
            self.check_moved(copy, Follow().before, (1,), 0, [], (1,))
            refused(self, CopyPinned, (), Planned([()]).before, copy, (3,), 0)
            self.check_moved(copy, Planned([(1,)]).before, (3,), 0, [], (1,))
            self.check_moved(copy, Toggles([[1, 2, 9]]).before, (3,), 0, [], (1,))
            self.check_moved(copy, Kept(1).before, (3,), 0, [], (1,))
        self.assertEqual((copy.home, copy.pins), ((1,), 0))

    def test_a_refused_call_of_kept_changes_nothing(self):
        copy = LiveCopy(wide_book(1))
        mover = Kept(3)
        mover.after(copy, (1,), 0)
        copy.hold()
        mover.after(copy, (1,), 1)
        for _ in range(3):
            refused(self, CopyPinned, (), mover.after, copy, (1,), 2)
        mover.after(copy, (), 2)
        mover.after(copy, (), 3)
        copy.release()
        # One request was heard in the end, so that two more are missing.
        self.assertEqual([mover.after(copy, (1,), index) for index in range(4, 8)], [[], [], [1], []])
        mover = Kept(1)
        copy = LiveCopy(wide_book(1), (1,))
        copy.hold()
        refused(self, CopyPinned, (), mover.after, copy, (), 0)
        copy.release()
        self.assertEqual(mover.after(copy, (1,), 0), [])

    def test_refused_arguments(self):
        refused(self, BadBound, (0,), Kept, 0, 0, -1)
        refused(self, BadBound, (-7,), Kept, -7)
        refused(self, BadPrice, (0,), Kept, 1, 0, -1)
        refused(self, BadPrice, (-1,), Kept, 1, 1, -1)
        refused(self, BadPrice, (-2,), Kept, 1, toggle=-2)
        refused(self, BadPrice, (-3,), Kept, bound=1, look=-3)

    def test_a_long_run(self):
        source = random.Random(8)
        book = Book([0] * 40)
        movers = [Mover(), Follow(), Kept(3), Planned([()] * 300), Toggles([[n % 40, 3] for n in range(300)])]
        copies = [LiveCopy(book) for _ in movers]
        for index in range(300):
            if len(book) < 40:
                book.make_patch([(len(book), 1)])
            version = tuple(n for n in book if source.random() < 0.5)
            for mover, copy in zip(movers, copies):
                home = copy.home
                toggled = mover.before(copy, version, index) + mover.after(copy, version, index)
                for number in toggled:
                    home = tuple(sorted(set(home) ^ {number}))
                self.assertEqual(copy.home, home)
        self.assertEqual(copies[0].home, ())
        self.assertEqual(copies[1].home, version)


if __name__ == "__main__":
    unittest.main()

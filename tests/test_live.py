"""Points 16 to 21: the live copy."""

import random
import unittest

from livecopy.book import Book
from livecopy.errors import BadCell, CannotToggle, CopyPinned, LivecopyError, NotAVersion, NotPinned, UnknownPatch
from livecopy.live import LiveCopy, Pin
from tests.support import NO_VERSIONS, chain_book, fields_of, random_book, refused, same_arguments, snapshot, wide_book

UNKNOWN = (0, -1, -4, 5, 10 ** 40, -10 ** 40)
NO_CELLS = (-1, -3, 3, 10 ** 40, -10 ** 40)


def state_of(copy):
    """Everything that can be asked of a copy, apart from its reads."""
    return copy.home, copy.pins, list(copy), [copy.saved(number) for number in copy.book]


def check_copy(case, copy, model, home):
    """Check what point 16 says of a copy with this home."""
    case.assertEqual(copy.home, home)
    case.assertEqual(list(copy), model.row(home))
    for number in copy.book:
        expected = sorted(model.writes[number].items())
        if number in home:
            expected = [(cell, saved_value(model, home, number, cell)) for cell, _ in expected]
        case.assertEqual(copy.saved(number), expected)


def saved_value(model, home, number, cell):
    writers = model.writers(home, cell)
    place = writers.index(number)
    if place == 0:
        return model.base[cell]
    return model.writes[writers[place - 1]][cell]


def toggle_error(model, home, number):
    """The fields of the error with which a toggle is refused, or None if it is let."""
    if number in home:
        users = [other for other in home if number in model.requires[other]]
        return (number, "required", min(users)) if users else None
    missing = model.requires[number] - set(home)
    if missing:
        return number, "missing", min(missing)
    foes = set(model.conflicting(number)) & set(home)
    return (number, "conflict", min(foes)) if foes else None


class HomeTest(unittest.TestCase):

    def test_a_new_copy(self):
        book = chain_book()
        copy = LiveCopy(book)
        self.assertIs(copy.book, book)
        self.assertEqual((copy.home, copy.pins, list(copy)), ((), 0, [10, 20, 30]))
        self.assertEqual([copy.saved(n) for n in book], [book.writes_of(n) for n in book])

    def test_a_copy_with_a_home(self):
        book = chain_book()
        copy = same_arguments(self, LiveCopy, book, (1, 2, 4))
        self.assertEqual((copy.home, copy.pins, list(copy)), ((1, 2, 4), 0, [12, 22, 34]))
        self.assertEqual([copy.saved(n) for n in book], [[(0, 10)], [(0, 11), (1, 20)], [(0, 13)], [(2, 30)]])

    def test_the_home_must_be_a_version(self):
        for bad in NO_VERSIONS:
            refused(self, NotAVersion, (bad,), LiveCopy, chain_book(), bad)

    def test_every_home(self):
        for seed in range(60):
            book, model = random_book(self, seed)
            for home in model.versions():
                check_copy(self, LiveCopy(book, home), model, home)

    def test_patches_that_are_made_later_are_off(self):
        book = chain_book()
        copy = LiveCopy(book, (1, 2))
        book.make_patch([(0, 15), (2, 35)], requires=(2,))
        self.assertEqual((copy.home, copy.saved(5)), ((1, 2), [(0, 15), (2, 35)]))
        self.assertEqual(copy.read((1, 2, 5), 0), 15)
        self.assertIs(copy.toggle(5), True)
        self.assertEqual((copy.home, list(copy), copy.saved(5)), ((1, 2, 5), [15, 22, 35], [(0, 12), (2, 30)]))
        refused(self, CannotToggle, (2, "required", 5), copy.toggle, 2)
        refused(self, CannotToggle, (4, "conflict", 5), copy.toggle, 4)

    def test_two_copies_of_one_book(self):
        book = chain_book()
        first, second = LiveCopy(book), LiveCopy(book, (3,))
        first.lead((1, 4))
        self.assertEqual((first.home, second.home, list(second)), ((1, 4), (3,), [13, 20, 30]))

    def test_a_copy_does_not_change_its_book(self):
        book = chain_book()
        before = snapshot(book)
        copy = LiveCopy(book, (1,))
        copy.lead((3, 4))
        copy.toggle(3)
        self.assertEqual(snapshot(book), before)


class ToggleTest(unittest.TestCase):

    def test_results(self):
        copy = LiveCopy(chain_book())
        self.assertIs(copy.toggle(1), True)
        self.assertIs(copy.toggle(2), True)
        self.assertEqual(list(copy), [12, 22, 30])
        self.assertIs(copy.toggle(2), False)
        self.assertIs(copy.toggle(1), False)
        self.assertEqual((copy.home, list(copy)), ((), [10, 20, 30]))

    def test_errors(self):
        copy = LiveCopy(chain_book(), (1, 4))
        for number in UNKNOWN:
            refused(self, UnknownPatch, (number,), copy.toggle, number)
        refused(self, CannotToggle, (3, "conflict", 1), copy.toggle, 3)
        copy.toggle(2)
        refused(self, CannotToggle, (1, "required", 2), copy.toggle, 1)
        copy.lead(())
        refused(self, CannotToggle, (2, "missing", 1), copy.toggle, 2)

    def test_the_least_other_patch(self):
        book = wide_book(6)
        book.make_patch([(0, 9)], requires=(6, 4, 5))
        book.make_patch([(1, 9)], requires=(5,))
        copy = LiveCopy(book)
        refused(self, CannotToggle, (7, "missing", 4), copy.toggle, 7)
        copy.lead((1, 2, 3, 4, 6))
        refused(self, CannotToggle, (7, "missing", 5), copy.toggle, 7)
        book.make_patch([(5, 9)], requires=(), conflicts=(3, 2))
        refused(self, CannotToggle, (9, "conflict", 2), copy.toggle, 9)
        copy.lead((3, 4, 5, 6, 7, 8))
        refused(self, CannotToggle, (5, "required", 7), copy.toggle, 5)
        refused(self, CannotToggle, (6, "required", 7), copy.toggle, 6)
        copy.toggle(7)
        refused(self, CannotToggle, (5, "required", 8), copy.toggle, 5)

    def test_missing_goes_ahead_of_conflict(self):
        copy = LiveCopy(chain_book(), (3,))
        refused(self, CannotToggle, (2, "missing", 1), copy.toggle, 2)
        refused(self, CannotToggle, (1, "conflict", 3), copy.toggle, 1)

    def test_the_order_of_the_errors(self):
        copy = LiveCopy(chain_book(), (3,))
        copy.hold()
        refused(self, UnknownPatch, (9,), copy.toggle, 9)
        refused(self, CopyPinned, (), copy.toggle, 2)
        refused(self, CopyPinned, (), copy.toggle, 3)
        copy.release()
        self.assertIs(copy.toggle(3), False)

    def test_random_toggles(self):
        for seed in range(120):
            book, model = random_book(self, seed)
            source = random.Random(seed)
            home = ()
            copy = LiveCopy(book)
            for _ in range(25):
                number = source.choice(list(book))
                expected = toggle_error(model, home, number)
                if expected is None:
                    home = tuple(sorted(set(home) ^ {number}))
                    self.assertIs(copy.toggle(number), number in home)
                else:
                    refused(self, CannotToggle, expected, copy.toggle, number)
                check_copy(self, copy, model, home)


class LeadTest(unittest.TestCase):

    def test_the_order_of_the_toggles(self):
        copy = LiveCopy(chain_book(), (1, 2, 4))
        self.assertEqual(same_arguments(self, copy.lead, (3,)), [4, 2, 1, 3])
        self.assertEqual((copy.home, list(copy)), ((3,), [13, 20, 30]))
        self.assertEqual(copy.lead((1, 2, 4)), [3, 1, 2, 4])
        self.assertEqual((copy.home, list(copy)), ((1, 2, 4), [12, 22, 34]))
        self.assertEqual(copy.lead((1, 2, 4)), [])
        self.assertEqual(copy.lead(()), [4, 2, 1])

    def test_errors(self):
        copy = LiveCopy(chain_book(), (1,))
        copy.hold()
        for bad in NO_VERSIONS:
            refused(self, NotAVersion, (bad,), copy.lead, bad)
        for version in ((), (1, 2), (3,)):
            refused(self, CopyPinned, (), copy.lead, version)
        self.assertEqual(copy.lead((1,)), [])
        self.assertEqual(state_of(copy), ((1,), 1, [11, 20, 30], [[(0, 10)], [(0, 12), (1, 22)], [(0, 13)], [(2, 34)]]))

    def test_random_ways(self):
        for seed in range(60):
            book, model = random_book(self, seed)
            versions = model.versions()
            random.Random(seed).shuffle(versions)
            copy = LiveCopy(book)
            home = ()
            for version in versions:
                leaving = sorted(set(home) - set(version), reverse=True)
                self.assertEqual(copy.lead(version), leaving + sorted(set(version) - set(home)))
                home = version
                check_copy(self, copy, model, home)

    def test_the_list_is_new(self):
        copy = LiveCopy(chain_book())
        copy.lead((1, 2)).clear()
        self.assertEqual(copy.home, (1, 2))


class ToggleAllTest(unittest.TestCase):

    def test_lists_that_are_let(self):
        copy = LiveCopy(chain_book())
        self.assertEqual(same_arguments(self, copy.toggle_all, [1, 2, 4, 2]), [True, True, True, False])
        self.assertEqual((copy.home, list(copy)), ((1, 4), [11, 20, 34]))
        self.assertEqual(copy.toggle_all([]), [])
        self.assertEqual(copy.toggle_all([1, 1, 1]), [False, True, False])
        self.assertEqual((copy.home, list(copy)), ((4,), [10, 20, 34]))

    def test_lists_that_are_refused(self):
        copy = LiveCopy(chain_book(), (4,))
        before = state_of(copy)
        for numbers, error, fields in (
            ([2], CannotToggle, (2, "missing", 1)),
            ([1, 2, 4, 3], CannotToggle, (3, "conflict", 1)),
            ([1, 2, 1], CannotToggle, (1, "required", 2)),
            ([1, 2, 2, 2, 9, 3], UnknownPatch, (9,)),
            ([4, 1, 0], UnknownPatch, (0,)),
        ):
            refused(self, error, fields, copy.toggle_all, numbers)
            self.assertEqual(state_of(copy), before)
            refused(self, error, fields, copy.retrace, numbers[::-1])
            self.assertEqual(state_of(copy), before)

    def test_pinned_copies(self):
        copy = LiveCopy(chain_book())
        copy.hold()
        for method in (copy.toggle_all, copy.retrace):
            self.assertEqual(method([]), [])
            refused(self, CopyPinned, (), method, [1])
        refused(self, UnknownPatch, (9,), copy.toggle_all, [9, 1])
        refused(self, CopyPinned, (), copy.toggle_all, [1, 9])
        refused(self, UnknownPatch, (9,), copy.retrace, [1, 9])
        self.assertEqual((copy.home, copy.pins), ((), 1))

    def test_retrace(self):
        copy = LiveCopy(chain_book(), (3,))
        toggled = copy.lead((1, 2))
        self.assertEqual(toggled, [3, 1, 2])
        self.assertEqual(same_arguments(self, copy.retrace, toggled), [False, False, True])
        self.assertEqual((copy.home, list(copy)), ((3,), [13, 20, 30]))
        self.assertEqual(copy.retrace([]), [])
        self.assertEqual(copy.retrace([4, 4]), [True, False])
        self.assertEqual(copy.retrace([2, 1, 3]), [False, True, True])
        self.assertEqual(copy.retrace([4, 2, 2]), [False, True, True])
        self.assertEqual(copy.home, (1, 2, 4))

    def test_random_lists(self):
        for seed in range(80):
            book, model = random_book(self, seed)
            source = random.Random(seed)
            copy = LiveCopy(book)
            single = LiveCopy(book)
            for _ in range(12):
                numbers = [source.choice(list(book)) for _ in range(source.randrange(4))]
                home = copy.home
                try:
                    results = [single.toggle(number) for number in numbers]
                except LivecopyError as error:
                    refused(self, error.__class__, fields_of(error), copy.toggle_all, numbers)
                    refused(self, error.__class__, fields_of(error), copy.retrace, numbers[::-1])
                    single.lead(home)
                    check_copy(self, copy, model, home)
                else:
                    other = LiveCopy(book, home)
                    self.assertEqual(copy.toggle_all(numbers), results)
                    self.assertEqual(other.retrace(numbers[::-1]), results)
                    check_copy(self, copy, model, single.home)
                    check_copy(self, other, model, single.home)


class ReadTest(unittest.TestCase):

    def test_all_versions_from_all_homes(self):
        for seed in range(25):
            book, model = random_book(self, seed)
            versions = model.versions()
            cells = list(range(book.cells))
            for home in versions:
                copy = LiveCopy(book, home)
                before = state_of(copy)
                for version in versions:
                    row = model.row(version)
                    self.assertEqual([copy.read(version, cell) for cell in cells], row)
                    self.assertEqual(copy.read_row(version), row)
                    self.assertEqual(copy.read_many(version, cells[::-1]), row[::-1])
                self.assertEqual(state_of(copy), before)

    def test_reads_behind_toggles(self):
        book = chain_book()
        copy = LiveCopy(book, (1, 2))
        copy.lead((3, 4))
        self.assertEqual([copy.read_row(v) for v in ((), (1,), (1, 2, 4), (3,))],
                         [[10, 20, 30], [11, 20, 30], [12, 22, 34], [13, 20, 30]])

    def test_errors(self):
        copy = LiveCopy(chain_book(), (1, 4))
        before = state_of(copy)
        for bad in NO_VERSIONS:
            refused(self, NotAVersion, (bad,), copy.read, bad, -1)
            refused(self, NotAVersion, (bad,), copy.read_row, bad)
            refused(self, NotAVersion, (bad,), copy.read_many, bad, [-1])
            refused(self, NotAVersion, (bad,), copy.read_many, bad, [])
        for cell in NO_CELLS:
            refused(self, BadCell, (cell,), copy.read, (1, 2), cell)
            refused(self, BadCell, (cell,), copy.read_many, (3,), [0, cell, -9])
            with self.assertRaises(BadCell) as caught:
                copy[cell]
            self.assertEqual(caught.exception.cell, cell)
        for number in UNKNOWN:
            refused(self, UnknownPatch, (number,), copy.saved, number)
        self.assertEqual(state_of(copy), before)

    def test_read_many(self):
        copy = LiveCopy(chain_book(), (1,))
        self.assertEqual(same_arguments(self, copy.read_many, (1, 2, 4), [2, 0, 2]), [34, 12, 34])
        self.assertEqual(copy.read_many((3,), []), [])
        self.assertEqual(copy.pins, 0)
        copy.hold()
        self.assertEqual(copy.read_many((3,), [0]), [13])
        self.assertEqual(copy.pins, 1)
        refused(self, BadCell, (5,), copy.read_many, (3,), [0, 5])
        self.assertEqual(copy.pins, 1)

    def test_the_live_cells(self):
        copy = LiveCopy(chain_book(), (1, 4))
        self.assertEqual((copy[0], copy[1], copy[2], len(copy)), (11, 20, 34, 3))
        self.assertEqual((list(copy), [value for value in copy]), ([11, 20, 34], [11, 20, 34]))

    def test_what_is_returned_is_new(self):
        copy = LiveCopy(chain_book(), (1, 4))
        before = state_of(copy)
        copy.read_row((1, 4)).clear()
        copy.read_row((1, 4))[0] = 7
        copy.saved(1).clear()
        copy.saved(2)[0] = (0, 0)
        copy.read_many((1, 4), [0]).clear()
        self.assertEqual(state_of(copy), before)


class PinTest(unittest.TestCase):

    def test_hold_and_release(self):
        copy = LiveCopy(chain_book())
        refused(self, NotPinned, (), copy.release)
        self.assertIsNone(copy.hold())
        self.assertIsNone(copy.hold())
        self.assertEqual(copy.pins, 2)
        refused(self, CopyPinned, (), copy.toggle, 1)
        self.assertIsNone(copy.release())
        refused(self, CopyPinned, (), copy.toggle, 1)
        copy.release()
        self.assertEqual(copy.pins, 0)
        refused(self, NotPinned, (), copy.release)
        self.assertEqual(copy.pins, 0)
        self.assertIs(copy.toggle(1), True)

    def test_a_pinned_copy_may_be_read(self):
        copy = LiveCopy(chain_book(), (1,))
        copy.hold()
        self.assertEqual((copy.read((3,), 0), copy.read_row((3,)), copy[0]), (13, [13, 20, 30], 11))

    def test_a_block(self):
        copy = LiveCopy(chain_book())
        pin = Pin(copy)
        self.assertEqual(copy.pins, 0)
        with pin as name:
            self.assertIs(name, copy)
            self.assertEqual(copy.pins, 1)
            refused(self, CopyPinned, (), copy.lead, (1,))
            with Pin(copy):
                self.assertEqual(copy.pins, 2)
            copy.hold()
        self.assertEqual(copy.pins, 1)
        copy.release()
        with pin:
            self.assertEqual(copy.pins, 1)
        self.assertEqual(copy.pins, 0)

    def test_a_block_that_ends_by_an_error(self):
        copy = LiveCopy(chain_book())
        with self.assertRaises(CopyPinned):
            with Pin(copy):
                copy.toggle(1)
        self.assertEqual((copy.pins, copy.home), (0, ()))
        with self.assertRaises(KeyError):
            with Pin(copy):
                raise KeyError("within the block")
        self.assertEqual(copy.pins, 0)


if __name__ == "__main__":
    unittest.main()

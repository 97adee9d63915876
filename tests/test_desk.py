"""Points 75 to 77: the desk."""

import copy
import random
import unittest

from livecopy.book import Book
from livecopy.collect import collect
from livecopy.desk import Desk
from livecopy.errors import (
    BadBound, BadCell, BadDeed, BadLine, BadName, BadPlace, BadPrice, Conflict, DuplicateCell, EmptyPatch,
    LivecopyError, NothingToUndo, NoVersions, UnknownName)
from livecopy.plain import row_of, value_at, writers
from livecopy.subbook import translate
from livecopy.versions import join, meet, without
from tests.support import refused, same_arguments, snapshot

GREAT = 10 ** 60 - 1
COLLECT = ("collect",)


def state(desk):
    """Everything that can be asked of a desk."""
    names = desk.names()
    return (
        snapshot(desk.book), desk.home, desk.cost, desk.journal(), names, [desk.row(name) for name, _ in names],
        desk.live_row(), desk.text())


class ModelDesk:
    """A desk by the words of points 75 and 76, without a live copy."""

    def __init__(self, base, bound=2, look=1, toggle=1):
        self.book = Book(base)
        self.bound, self.look, self.toggle = bound, look, toggle
        self.names = {"base": ()}
        self.home, self.counters, self.cost = set(), {}, 0

    def do(self, deed):
        kind, *parts = deed
        if kind == "read":
            version = self.names[parts[0]]
            value = value_at(self.book, version, parts[1])
            self.request(set(version))
            return value
        if kind == "collect":
            self.collect()
        elif kind == "drop":
            del self.names[parts[0]]
        elif kind in ("put", "loose"):
            source = self.names[parts[1]]
            needs = source
            if kind == "loose":
                needs = tuple(n for cell, _ in parts[2] for n in writers(self.book, source, cell)[-1:])
            self.names[parts[0]] = source + (self.book.make_patch(parts[2], requires=needs),)
        else:
            operation = {"join": join, "meet": meet, "without": without}[kind]
            self.names[parts[0]] = operation(self.book, self.names[parts[1]], self.names[parts[2]])
        return None

    def request(self, version):
        self.cost += self.look * self.size(self.home ^ version)
        for n in self.book:
            moved = self.counters.get(n, 0) + (1 if n in version else -1)
            self.counters[n] = min(self.bound, max(0, moved))
        moved = {n for n in self.book if self.counters[n] == (0 if n in self.home else self.bound)}
        self.cost += self.toggle * self.size(moved)
        self.home ^= moved

    def collect(self):
        living = [set(version) for version in self.names.values()]
        kept = set.intersection(*living) | (self.home & set.union(*living))
        self.cost += self.toggle * self.size(self.home ^ kept)
        self.book, numbers = collect(self.book, list(self.names.values()))
        self.names = {name: translate(numbers, version) for name, version in self.names.items()}
        self.home = {numbers[n] for n in kept if n in numbers}
        self.counters = {numbers[n]: self.counters.get(n, 0) for n in numbers}

    def size(self, numbers):
        return sum(self.book.size_of(n) for n in numbers)


def random_deed(source, names, cells, last=False):
    """A deed that may be refused, but seldom is; it drops the last name only if it may."""
    kind = source.choice(["put"] * 4 + ["loose"] * 3 + ["read"] * 6 + ["join", "meet", "without", "drop", "collect"])
    known = source.choice(names + ["nobody"] * (source.random() < 0.05)) if names else "nobody"
    other = source.choice(names) if names else "nobody"
    if kind == "drop" and len(names) == 1 and not last:
        return COLLECT
    bound = source.choice(("a", "b", "c", "d", "base", "E"))
    if kind in ("put", "loose"):
        writes = [(source.randrange(cells), source.randrange(100)) for _ in range(source.choice((1, 1, 1, 2, 3)))]
        return (kind, bound, known, writes)
    return {
        "read": ("read", known, source.randrange(cells)), "drop": ("drop", known), "collect": COLLECT,
    }.get(kind, (kind, bound, known, other))


class DeskCase(unittest.TestCase):

    def refused_deed(self, desk, error_class, fields, deed):
        """Check that a deed is refused, and that the desk is as before."""
        before = state(desk)
        book = desk.book
        refused(self, error_class, fields, desk.do, deed)
        self.assertEqual(state(desk), before)
        self.assertIs(desk.book, book)

    def check_same(self, desk, model):
        """Check that a desk is as the model."""
        self.assertEqual(snapshot(desk.book), snapshot(model.book))
        self.assertEqual((desk.home, desk.cost), (tuple(sorted(model.home)), model.cost))
        self.assertEqual(desk.names(), sorted(model.names.items()))
        self.assertEqual(desk.live_row(), row_of(model.book, desk.home))
        for name, version in model.names.items():
            self.assertEqual(desk.row(name), row_of(model.book, version))


class DeedTest(DeskCase):

    def test_a_new_desk(self):
        base = [1, 2, 3]
        desk = same_arguments(self, Desk, base)
        base.clear()
        self.assertEqual((desk.home, desk.cost, len(desk.book), desk.book.base_row()), ((), 0, 0, [1, 2, 3]))
        self.assertEqual((desk.names(), desk.journal(), desk.live_row()), ([("base", ())], [], [1, 2, 3]))
        self.assertEqual(desk.row("base"), [1, 2, 3])
        self.assertEqual(desk.text(), "desk bound 2 look 1 toggle 1\nbase 1 2 3\n")

    def test_refused_arguments(self):
        refused(self, BadCell, (0,), Desk, [], bound=0, look=0, toggle=-1)
        refused(self, BadBound, (0,), Desk, [0], bound=0, look=0, toggle=-1)
        refused(self, BadPrice, (0,), Desk, [0], look=0, toggle=-1)
        refused(self, BadPrice, (-1,), Desk, [0], toggle=-1)

    def test_put(self):
        desk = Desk([1, 2])
        self.assertIsNone(same_arguments(self, desk.do, ("put", "a", "base", [(1, 5), (0, 4)])))
        self.assertIsNone(desk.do(("put", "b", "a", [(0, GREAT)])))
        desk.do(("put", "a", "base", [(0, 7)]))
        self.assertEqual(desk.names(), [("a", (3,)), ("b", (1, 2)), ("base", ())])
        self.assertEqual([desk.book.writes_of(n) for n in desk.book], [[(0, 4), (1, 5)], [(0, GREAT)], [(0, 7)]])
        self.assertEqual([desk.book.required(n) for n in desk.book], [(), (1,), ()])
        self.assertEqual([desk.book.size_of(n) for n in desk.book], [2, 1, 1])
        self.assertEqual([desk.row(name) for name, _ in desk.names()], [[7, 2], [GREAT, 5], [1, 2]])
        self.assertEqual((desk.home, desk.cost, desk.live_row()), ((), 0, [1, 2]))

    def test_more_than_four_writes(self):
        desk = Desk([0] * 400)
        desk.do(("put", "a", "base", [(cell, cell) for cell in range(400)]))
        desk.do(("loose", "b", "a", [(cell, 1) for cell in range(5, 15)]))
        self.assertEqual((desk.row("b")[3:7], desk.book.size_of(1), desk.book.required(2)), ([3, 4, 1, 1], 400, (1,)))

    def test_loose(self):
        desk = Desk([0, 0, 0])
        for deed in (("put", "a", "base", [(0, 1)]), ("put", "a", "a", [(1, 2)]), ("loose", "b", "a", [(0, 3)]),
                     ("loose", "c", "a", [(2, 4)]), ("loose", "d", "b", [(0, 5), (1, 6)])):
            desk.do(deed)
        self.assertEqual([desk.book.required(n) for n in desk.book], [(), (1,), (1,), (), (1, 2, 3)])
        self.assertEqual(dict(desk.names())["d"], (1, 2, 3, 5))

    def test_join_meet_and_without(self):
        desk = Desk([0, 0])
        for deed in (("put", "a", "base", [(0, 1)]), ("put", "b", "base", [(1, 2)]), ("put", "c", "a", [(0, 3)]),
                     ("join", "d", "c", "b"), ("meet", "e", "d", "a"), ("without", "f", "d", "a"), ("drop", "a")):
            self.assertIsNone(desk.do(deed))
        self.assertEqual(desk.names(), [("b", (2,)), ("base", ()), ("c", (1, 3)), ("d", (1, 2, 3)), ("e", (1,)), ("f", (2,))])

    def test_read(self):
        desk = Desk([5], bound=2, look=10, toggle=3)
        desk.do(("put", "a", "base", [(0, 7)]))
        self.assertEqual([desk.do(("read", "a", 0)), desk.home, desk.cost, desk.live_row()], [7, (), 10, [5]])
        self.assertEqual([desk.do(("read", "a", 0)), desk.home, desk.cost, desk.live_row()], [7, (1,), 23, [7]])
        self.assertEqual([desk.do(("read", "base", 0)), desk.home, desk.cost], [5, (1,), 33])
        self.assertEqual([desk.do(("read", "a", 0)), desk.home, desk.cost], [7, (1,), 33])

    def test_the_worked_example(self):
        desk = Desk([0])
        for deed in (("put", "a", "base", [(0, 1)]), ("put", "b", "a", [(0, 2)]), ("put", "c", "base", [(0, 3)])):
            desk.do(deed)
        costs = []
        for name in ("b", "b", "b", "c", "b"):
            desk.do(("read", name, 0))
            costs.append(desk.cost)
        self.assertEqual((costs, desk.home), ([2, 6, 6, 9, 9], (1, 2)))

    def test_row_is_no_request(self):
        desk = Desk([5], bound=1)
        desk.do(("put", "a", "base", [(0, 7)]))
        before = state(desk)
        self.assertEqual((desk.row("a"), state(desk)), ([7], before))
        refused(self, UnknownName, ("b",), desk.row, "b")
        refused(self, UnknownName, ("",), desk.row, "")

    def test_bad_names(self):
        desk = Desk([0])
        for name in ("", "A", "1a", "aB", "a_", "a b", " a", "a" * 13, "\u00e4", "a\n", "-", "z\u00b2"):
            for deed in (("put", name, "nobody", []), ("loose", name, "nobody", []), ("join", name, "nobody", "base"),
                         ("meet", name, "base", "nobody"), ("without", name, "nobody", "nobody")):
                self.refused_deed(desk, BadName, (name,), deed)
        for name in ("a", "z", "a0", "a" * 12, "base", "end", "b12345678901"):
            desk.do(("meet", name, "base", "base"))

    def test_unknown_names(self):
        desk = Desk([0])
        for kind in ("put", "loose"):
            self.refused_deed(desk, UnknownName, ("no",), (kind, "a", "no", []))
            self.refused_deed(desk, UnknownName, ("a",), (kind, "a", "a", [(0, 1)]))
            self.refused_deed(desk, UnknownName, ("Not a name",), (kind, "a", "Not a name", [(9, 1)]))
        for kind in ("join", "meet", "without"):
            self.refused_deed(desk, UnknownName, ("one",), (kind, "a", "one", "two"))
            self.refused_deed(desk, UnknownName, ("two",), (kind, "a", "base", "two"))
        self.refused_deed(desk, UnknownName, ("no",), ("drop", "no"))
        self.refused_deed(desk, UnknownName, ("no",), ("read", "no", 9))

    def test_bad_writes(self):
        desk = Desk([0, 0])
        desk.do(("put", "a", "base", [(0, 1)]))
        for kind in ("put", "loose"):
            for source in ("base", "a"):
                self.refused_deed(desk, EmptyPatch, (), (kind, "b", source, []))
                for cell in (2, -1, 10 ** 30, -10 ** 30):
                    self.refused_deed(desk, BadCell, (cell,), (kind, "b", source, [(0, 1), (cell, 1), (0, 1)]))
                self.refused_deed(desk, DuplicateCell, (1,), (kind, "b", source, [(1, 1), (1, 1), (2, 1)]))
                self.refused_deed(desk, BadCell, (2,), (kind, "b", source, [(1, 1), (2, 1), (1, 1)]))

    def test_bad_cells_of_a_read(self):
        desk = Desk([0, 0], bound=1)
        desk.do(("put", "a", "base", [(0, 1)]))
        for cell in (2, -1, 10 ** 30, -10 ** 30):
            self.refused_deed(desk, BadCell, (cell,), ("read", "a", cell))

    def test_conflicts(self):
        desk = Desk([0, 0])
        for deed in (("put", "a", "base", [(0, 1)]), ("put", "b", "a", [(1, 2)]), ("put", "c", "base", [(0, 3)]),
                     ("put", "d", "c", [(1, 4)])):
            desk.do(deed)
        self.refused_deed(desk, Conflict, (1, 3), ("join", "e", "b", "c"))
        self.refused_deed(desk, Conflict, (1, 3), ("join", "a", "d", "b"))

    def test_all_names_dropped(self):
        desk = Desk([5], bound=1)
        desk.do(("put", "a", "base", [(0, 1)]))
        desk.do(("read", "a", 0))
        desk.do(("drop", "base"))
        desk.do(("drop", "a"))
        self.assertEqual((desk.names(), desk.home, desk.live_row()), ([], (1,), [1]))
        self.refused_deed(desk, NoVersions, (), COLLECT)
        self.refused_deed(desk, UnknownName, ("base",), ("read", "base", 0))
        self.refused_deed(desk, UnknownName, ("base",), ("put", "a", "base", [(0, 1)]))
        self.assertEqual(desk.undo(), ("drop", "a"))
        desk.do(COLLECT)
        self.assertEqual((desk.names(), desk.book.base_row(), len(desk.book)), ([("a", ())], [1], 0))

    def test_against_the_model(self):
        kinds = set()
        for seed in range(150):
            source = random.Random(seed)
            cells, bound, look, toggle = source.randrange(1, 4), *(source.randrange(1, 4) for _ in range(3))
            base = [source.randrange(100, 200) for _ in range(cells)]
            desk = Desk(base, bound=bound, look=look, toggle=toggle - 1)
            model = ModelDesk(base, bound, look, toggle - 1)
            for _ in range(40):
                deed = random_deed(source, [name for name, _ in desk.names()], cells, last=True)
                before = state(desk)
                try:
                    value = same_arguments(self, desk.do, deed)
                except LivecopyError as error:
                    self.assertEqual(state(desk), before)
                    kinds.add(error.__class__)
                    continue
                self.assertEqual(value, model.do(deed))
                self.assertEqual(desk.journal(), before[3] + [deed])
                self.check_same(desk, model)
        self.assertEqual(kinds, {BadName, UnknownName, DuplicateCell, Conflict, NoVersions})


class CollectTest(DeskCase):

    def test_a_collect(self):
        desk = Desk([10, 20], bound=2, look=1, toggle=100)
        for deed in (("put", "a", "base", [(0, 11)]), ("put", "b", "a", [(0, 12)]), ("put", "c", "a", [(1, 23)]),
                     ("put", "d", "base", [(1, 24)]), ("read", "d", 0), ("read", "d", 0), ("read", "c", 1),
                     ("drop", "base"), ("drop", "d")):
            desk.do(deed)
        # Patch 4 is on; it is dropped, and patch 1 becomes part of the base.
        self.assertEqual((desk.home, desk.cost), ((4,), 2 + 100 + 3))
        old = desk.book
        self.assertIsNone(desk.do(COLLECT))
        self.assertEqual((desk.home, desk.cost), ((), 105 + 200))
        self.assertEqual((desk.names(), desk.book.base_row(), len(desk.book)), ([("a", ()), ("b", (1,)), ("c", (2,))], [11, 20], 2))
        self.assertEqual([desk.row(name) for name in "abc"], [[11, 20], [12, 20], [11, 23]])
        self.assertEqual((desk.live_row(), len(old), old.base_row()), ([11, 20], 4, [10, 20]))
        # The counter of the patch that was 3 stands at 1.
        desk.do(("read", "c", 1))
        self.assertEqual((desk.home, desk.cost), ((2,), 305 + 1 + 100))

    def test_a_collect_of_the_home(self):
        desk = Desk([0, 0], bound=1, toggle=7)
        for deed in (("put", "a", "base", [(0, 1)]), ("put", "b", "a", [(1, 2)]), ("read", "b", 0), ("drop", "base"), COLLECT):
            desk.do(deed)
        self.assertEqual((desk.home, desk.cost, desk.live_row(), desk.names()), ((1,), 2 + 14, [1, 2], [("a", ()), ("b", (1,))]))

    def test_collects_in_between(self):
        desk = Desk([1, 2, 3], bound=1)
        for number in range(30):
            desk.do(("put", f"n{number}", f"n{number - 1}" if number else "base", [(number % 3, number)]))
            desk.do(("read", f"n{number}", 0))
            if number == 0:
                desk.do(("drop", "base"))
            else:
                desk.do(("drop", f"n{number - 1}"))
                rows = desk.row(f"n{number}")
                desk.do(COLLECT)
                self.assertEqual((desk.row(f"n{number}"), len(desk.book), desk.live_row()), (rows, 0, rows))
        self.assertEqual(desk.book.base_row(), [27, 28, 29])

    def test_an_empty_collect(self):
        desk = Desk([4])
        desk.do(COLLECT)
        self.assertEqual((desk.names(), desk.book.base_row(), desk.cost, desk.journal()), ([("base", ())], [4], 0, [COLLECT]))


class JournalTest(DeskCase):

    def deeds(self, seed, many=30):
        """A desk on which random deeds were done, and its states behind all of them."""
        source = random.Random(seed)
        desk = Desk([source.randrange(9) for _ in range(3)], bound=source.randrange(1, 4), look=2, toggle=3)
        states = [state(desk)]
        while len(states) <= many:
            try:
                desk.do(random_deed(source, [name for name, _ in desk.names()], 3))
            except LivecopyError:
                continue
            states.append(state(desk))
        return desk, states, source

    def test_undo(self):
        for seed in range(30):
            desk, states, source = self.deeds(seed)
            while len(states) > 1:
                deed = states.pop()[3][-1]
                self.assertEqual((desk.undo(), state(desk)), (deed, states[-1]))
            refused(self, NothingToUndo, (), desk.undo)
            self.assertEqual(state(desk), states[0])

    def test_back_to(self):
        for seed in range(30, 60):
            desk, states, source = self.deeds(seed)
            while len(states) > 1:
                for count in (-1, len(states), 10 ** 30, -10 ** 30):
                    refused(self, BadPlace, (count,), desk.back_to, count)
                self.assertEqual(state(desk), states[-1])
                count = source.randrange(len(states))
                self.assertIsNone(desk.back_to(count))
                states = states[:count + 1]
                self.assertEqual(state(desk), states[-1])

    def test_undone_and_done_again(self):
        for seed in range(60, 90):
            desk, states, source = self.deeds(seed, 20)
            for _ in range(12):
                count = source.randrange(len(states))
                for deed in states[-1][3][count:][::-1]:
                    self.assertEqual(desk.undo(), deed)
                self.assertEqual(state(desk), states[count])
                redone = states[-1][3][count:] if source.random() < 0.5 else []
                states = states[:count + 1]
                for deed in redone:
                    desk.do(deed)
                    states.append(state(desk))
                while len(states) < 20:
                    try:
                        desk.do(random_deed(source, [name for name, _ in desk.names()], 3))
                    except LivecopyError:
                        continue
                    states.append(state(desk))
                again = Desk.replay(states[0][6], desk.journal(), bound=desk._bound, look=2, toggle=3)
                self.assertEqual(state(again), states[-1])

    def test_a_book_that_was_seen_keeps_its_patches(self):
        desk = Desk([0])
        desk.do(("put", "a", "base", [(0, 1)]))
        book = desk.book
        desk.undo()
        self.assertEqual((len(desk.book), len(book)), (0, 1))
        desk.do(("put", "a", "base", [(0, 2)]))
        self.assertEqual((desk.row("a"), row_of(book, (1,))), ([2], [1]))

    def test_the_book_grows_as_long_as_it_is_the_same(self):
        desk = Desk([0])
        book = desk.book
        desk.do(("put", "a", "base", [(0, 1)]))
        self.assertIs(desk.book, book)
        self.assertEqual(len(book), 1)
        desk.do(COLLECT)
        self.assertIsNot(desk.book, book)

    def test_undo_of_a_read(self):
        desk = Desk([0], bound=2, look=5, toggle=3)
        for deed in (("put", "a", "base", [(0, 1)]), ("read", "a", 0), ("read", "a", 0)):
            desk.do(deed)
        self.assertEqual((desk.home, desk.cost, desk.live_row()), ((1,), 13, [1]))
        self.assertEqual(desk.undo(), ("read", "a", 0))
        self.assertEqual((desk.home, desk.cost, desk.live_row()), ((), 5, [0]))
        desk.do(("read", "base", 0))
        desk.do(("read", "a", 0))
        self.assertEqual((desk.home, desk.cost), ((), 10))

    def test_everything_is_copied(self):
        writes = [(0, 1)]
        desk = Desk([0])
        desk.do(("put", "a", "base", writes))
        writes.append((0, 2))
        desk.journal()[0][3].clear()
        desk.journal().clear()
        desk.names().clear()
        desk.row("a").clear()
        desk.live_row().clear()
        self.assertEqual((desk.journal(), desk.names()), ([("put", "a", "base", [(0, 1)])], [("a", (1,)), ("base", ())]))
        self.assertEqual((desk.row("a"), desk.live_row()), ([1], [0]))
        deed = desk.undo()
        deed[3].clear()
        desk.do(("put", "a", "base", [(0, 3)]))
        self.assertEqual(desk.journal(), [("put", "a", "base", [(0, 3)])])

    def test_replay(self):
        deeds = [("put", "a", "base", [(0, 1)]), ("read", "a", 0), ("drop", "base"), COLLECT, ("loose", "b", "a", [(1, 2)])]
        kept = copy.deepcopy(deeds)
        desk = same_arguments(self, Desk.replay, [0, 0], deeds, bound=1, look=2, toggle=3)
        self.assertIs(desk.__class__, Desk)
        deeds[0][3].clear()
        self.assertEqual((desk.journal(), desk.cost, desk.names()), (kept, 5, [("a", ()), ("b", (1,))]))
        self.assertEqual(state(Desk.replay([7], [])), state(Desk([7])))
        self.assertEqual(state(desk.replay([7], [])), state(Desk([7])))

    def test_bad_deeds(self):
        good = [("put", "a", "base", [(0, 1)]), ("put", "b", "base", [(0, 2)])]
        for deed in (("put", "A", "base", [(0, 1)]), ("put", "c", "no", [(0, 1)]), ("put", "c", "a", []),
                     ("put", "c", "a", [(1, 1)]), ("put", "c", "a", [(0, 1), (0, 1)]), ("join", "c", "a", "b"),
                     ("drop", "no"), ("read", "a", 1)):
            refused(self, BadDeed, (2,), Desk.replay, [0], [*good, deed, deed])
            refused(self, BadDeed, (0,), Desk.replay, [0], [deed, *good] if deed[0] != "join" else [deed])
        refused(self, BadDeed, (1,), Desk.replay, [0], [("drop", "base"), COLLECT])
        bad = [("drop", "no")]
        refused(self, BadCell, (0,), Desk.replay, [], bad, bound=0)
        refused(self, BadBound, (0,), Desk.replay, [0], bad, bound=0, look=0)
        refused(self, BadPrice, (0,), Desk.replay, [0], bad, look=0, toggle=-1)
        refused(self, BadPrice, (-1,), Desk.replay, [0], bad, toggle=-1)

    def test_two_hundred_deeds(self):
        desk = Desk([0] * 400, bound=2)
        states = {}
        for number in range(200):
            if number in (0, 57, 120, 199):
                states[number] = state(desk)
            name, source = f"n{number}", f"n{number - 1}" if number else "base"
            if number % 5 == 4:
                desk.do(("read", f"n{number - 1}", number))
                desk.undo()
                desk.do(("loose", name, source, [(number, 1), (number - 1, 2)]))
            else:
                desk.do(("put", name, source, [(cell, number) for cell in range(number, 400, 100)]))
        self.assertEqual(len(desk.journal()), 200)
        self.assertEqual(state(Desk.parse(desk.text())), state(desk))
        for number in range(199, -1, -1):
            desk.undo()
            if number in states:
                self.assertEqual(state(desk), states[number])


class DeskTextTest(DeskCase):

    text = f"""desk bound 3 look 2 toggle 0
base 0 -5 {GREAT}
put a base 1=7 0=-1
loose b a 2=0
join c a b
meet d a b
without e c a
read c 1
read c 2
drop a
collect
read b 0
"""

    def test_a_text(self):
        desk = Desk.parse(self.text)
        self.assertIs(desk.__class__, Desk)
        self.assertEqual(desk.journal(), [
            ("put", "a", "base", [(1, 7), (0, -1)]), ("loose", "b", "a", [(2, 0)]), ("join", "c", "a", "b"),
            ("meet", "d", "a", "b"), ("without", "e", "c", "a"), ("read", "c", 1), ("read", "c", 2), ("drop", "a"),
            COLLECT, ("read", "b", 0)])
        self.assertEqual(desk.text(), self.text)
        again = Desk.replay([0, -5, GREAT], desk.journal(), bound=3, look=2, toggle=0)
        self.assertEqual(state(again), state(desk))
        # The base of the text is the one with which the desk was created.
        self.assertEqual(desk.book.base_row(), [0, -5, GREAT])

    def test_the_base_behind_a_collect(self):
        desk = Desk([0])
        for deed in (("put", "a", "base", [(0, 1)]), ("drop", "base"), COLLECT):
            desk.do(deed)
        self.assertEqual(desk.book.base_row(), [1])
        self.assertEqual(desk.text(), "desk bound 2 look 1 toggle 1\nbase 0\nput a base 0=1\ndrop base\ncollect\n")

    def test_round_trip(self):
        for seed in range(40):
            desk, states, source = JournalTest.deeds(self, seed)
            self.assertEqual(state(Desk.parse(desk.text())), state(desk))
            desk.back_to(source.randrange(len(states)))
            self.assertEqual(state(Desk.parse(desk.text())), state(desk))

    def test_cut_texts(self):
        lines = self.text.split("\n")[:-1]
        for many in range(len(lines)):
            head = "".join(line + "\n" for line in lines[:many])
            if many > 1:
                self.assertEqual(len(Desk.parse(head).journal()), many - 2)
            else:
                refused(self, BadLine, (many + 1,), Desk.parse, head)
            refused(self, BadLine, (many + 1,), Desk.parse, head + lines[many])

    def test_wrong_first_lines(self):
        wrong = (
            "", "desk", "desk bound 1", "desk bound 1 look 1", "desk bound 1 look 1 toggle", "desk bound 1 look 1 toggle ",
            "desk bound 1 look 1 toggle 1 ", "desk bound 1 look 1 toggle 1 1", " desk bound 1 look 1 toggle 1",
            "desk look 1 bound 1 toggle 1", "desk bound x look 1 toggle 1", "desk bound 1 look 01 toggle 1",
            "desk bound 1  look 1 toggle 1", "Desk bound 1 look 1 toggle 1", "base 1",
            "desk bound 0 look 1 toggle 1", "desk bound -1 look 1 toggle 1", "desk bound 1 look 0 toggle 1",
            "desk bound 1 look 1 toggle -1")
        for line in wrong:
            for rest in ("", "\nbase 1\n", "\nbase\n", "\nnonsense\n", "\nbase 1\ndrop no\n", "\n"):
                with self.subTest(line=line, rest=rest):
                    refused(self, BadLine, (1,), Desk.parse, line + rest)

    def test_wrong_bases(self):
        for line in ("", "base", "base ", "base  1", "base 1 ", " base 1", "base x", "base 01", "put a base 0=1"):
            refused(self, BadLine, (2,), Desk.parse, f"desk bound 1 look 1 toggle 0\n{line}\ndrop no\n")

    def test_wrong_deeds(self):
        wrong = (
            "", "put", "put b base", "put b base ", "put b base 0", "put b base 0=x", "put b base 0=1 ", "put b base 0=1  1=1",
            "put B base 0=1", "put b no 0=1", "put b base 2=1", "put b base -1=1", "put b base 0=1 0=1", " put b base 0=1",
            "loose b base", "loose b base 0=b", "loose b no 0=1", "loose b a 5=1", "join b a", "join b a c", "join b a base a",
            "join Bb a a", "meet b a", "meet b a no", "without b no a", "without b a a a", "join z a c", "drop", "drop no",
            "drop a a", "read", "read a", "read a 2", "read a -1", "read a x", "read a 0 0", "read no 0", "collect ",
            "collect a", "collects", "undo", "base 1", "desk bound 1 look 1 toggle 1", "fail", "print 1", "drop a ",
            "put b base 0=" + "1" * 61)
        start = "desk bound 1 look 1 toggle 0\nbase 1 2\nput a base 0=1\nput d base 0=2\n"
        for line in wrong:
            with self.subTest(line=line):
                refused(self, BadLine, (5,), Desk.parse, f"{start}{line}\nnonsense\n")
        refused(self, BadLine, (5,), Desk.parse, start + "join b a d\n")
        refused(self, BadLine, (7,), Desk.parse, start + "drop a\ndrop d\ndrop a\n")
        refused(self, BadLine, (8,), Desk.parse, start + "drop a\ndrop d\ndrop base\ncollect\n")

    def test_long_numbers(self):
        desk = Desk([GREAT, -GREAT], bound=10 ** 12, look=10 ** 12, toggle=10 ** 12)
        desk.do(("put", "a", "base", [(0, -GREAT)]))
        self.assertEqual(state(Desk.parse(desk.text())), state(desk))
        desk.do(("put", "b", "base", [(0, 10 ** 60)]))
        refused(self, BadLine, (4,), Desk.parse, desk.text())
        desk = Desk([10 ** 5000])
        self.assertEqual(desk.text(), "desk bound 2 look 1 toggle 1\nbase 1" + "0" * 5000 + "\n")


if __name__ == "__main__":
    unittest.main()

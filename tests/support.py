"""What the tests share: a model of a book by the words of the document, sample books, and checks."""

import copy
import itertools
import random

from livecopy.book import Book
from livecopy.errors import Conflict, LivecopyError


class Model:
    """A book as plain sets. Every answer is worked out anew from the rules, by trying everything."""

    def __init__(self, base):
        self.base = list(base)
        self.writes = {}
        self.sizes = {}
        self.requires = {}
        self.pairs = set()

    def numbers(self):
        return list(self.writes)

    def try_patch(self, writes, requires, conflicts, size):
        """Add a patch and return None, or return the least clashing pair and add nothing."""
        number = len(self.writes) + 1
        direct = set(requires)
        grown = dict(self.requires)
        grown[number] = direct.union(*[self.requires[other] for other in direct])
        written = dict(self.writes)
        written[number] = dict(writes)
        pairs = close_conflicts(written, grown, self.pairs | {(other, number) for other in conflicts})
        clash = least_clash(pairs, grown[number] | {number})
        if clash is not None:
            return clash
        self.requires = grown
        self.writes = written
        self.sizes[number] = size if size else len(writes)
        self.pairs = pairs
        return None

    def conflicting(self, number):
        return tuple(sorted({sum(pair) - number for pair in self.pairs if number in pair}))

    def relation(self, first, second):
        if first == second:
            return "same"
        if second in self.requires[first]:
            return "requires"
        if first in self.requires[second]:
            return "required"
        if (min(first, second), max(first, second)) in self.pairs:
            return "conflict"
        return "independent"

    def is_version(self, numbers):
        members = set(numbers)
        return all(self.requires[number] <= members for number in members) and least_clash(self.pairs, members) is None

    def versions(self):
        """All versions, by their number of patches, then by the tuples."""
        found = []
        for many in range(len(self.writes) + 1):
            found += [numbers for numbers in itertools.combinations(self.numbers(), many) if self.is_version(numbers)]
        return found

    def closure(self, numbers):
        return set(numbers).union(*[self.requires[number] for number in numbers])

    def writers(self, version, cell):
        return tuple(number for number in sorted(version) if cell in self.writes[number])

    def row(self, version):
        values = list(self.base)
        for cell in range(len(values)):
            for number in self.writers(version, cell):
                values[cell] = self.writes[number][cell]
        return values


def close_conflicts(writes, requires, pairs):
    """Apply the three rules of point 7 until they produce no further pair."""
    pairs = set(pairs)
    for first, second in itertools.combinations(writes, 2):
        apart = first not in requires[second] and second not in requires[first]
        if apart and set(writes[first]) & set(writes[second]):
            pairs.add((first, second))
    while True:
        further = {
            (min(one, other), max(one, other))
            for pair in pairs
            for needed, other in (pair, pair[::-1])
            for one in writes
            if needed in requires[one] and one != other
        }
        if further <= pairs:
            return pairs
        pairs |= further


def least_clash(pairs, members):
    inside = [pair for pair in pairs if pair[0] in members and pair[1] in members]
    return min(inside, default=None)


def try_patch(case, book, model, writes, requires, conflicts, size):
    """Make a patch in the book and in the model, which must agree."""
    before = snapshot(book)
    expected = model.try_patch(writes, requires, conflicts, size)
    if expected is None:
        number = book.make_patch(writes, requires=requires, conflicts=conflicts, size=size)
        case.assertEqual(number, len(model.writes))
        return
    refused(case, Conflict, expected, book.make_patch, writes, requires=requires, conflicts=conflicts, size=size)
    case.assertEqual(snapshot(book), before)


def random_book(case, seed, attempts=8, cells=6):
    """Return a book and its model, both made from the same random patches."""
    source = random.Random(seed)
    base = [source.randrange(-9, 10) for _ in range(cells)]
    book, model = Book(base), Model(base)
    for _ in range(attempts):
        written = source.sample(range(cells), min(cells, source.choice((1, 1, 1, 2, 3))))
        writes = [(cell, source.randrange(100, 1000)) for cell in written]
        earlier = model.numbers()
        requires = tuple(source.choice(earlier) for _ in range(source.choice((0, 0, 1, 1, 2, 3))) if earlier)
        conflicts = tuple(source.choice(earlier) for _ in range(source.choice((0, 0, 0, 1, 2))) if earlier)
        try_patch(case, book, model, writes, requires, conflicts, source.choice((0, 0, 1, 7)))
    return book, model


def snapshot(book):
    """Everything that can be asked of a book."""
    numbers = list(book)
    return (
        book.cells, len(book), numbers, book.base_row(),
        [(book.writes_of(n), book.size_of(n), book.required(n), book.conflicting(n)) for n in numbers],
        [[book.relation(first, second) for second in numbers] for first in numbers],
    )


def fields_of(error):
    return tuple(vars(error).values())


def refused(case, error_class, fields, call, *args, **named):
    """Check that a call raises exactly this error with these fields, and leaves its arguments as they were."""
    lists = copy.deepcopy([part for part in args if isinstance(part, (list, tuple, dict))])
    names = copy.deepcopy({name: part for name, part in named.items() if isinstance(part, (list, tuple, dict))})
    with case.assertRaises(LivecopyError) as caught:
        call(*args, **named)
    case.assertIs(caught.exception.__class__, error_class)
    case.assertEqual(fields_of(caught.exception), fields)
    case.assertEqual([part for part in args if isinstance(part, (list, tuple, dict))], lists)
    case.assertEqual({name: named[name] for name in names}, names)


def same_arguments(case, call, *args, **named):
    """Call, check that the lists, tuples and dicts among the arguments are as before, and return the result."""
    lists = copy.deepcopy([part for part in args if isinstance(part, (list, tuple, dict))])
    names = copy.deepcopy({name: part for name, part in named.items() if isinstance(part, (list, tuple, dict))})
    result = call(*args, **named)
    case.assertEqual([part for part in args if isinstance(part, (list, tuple, dict))], lists)
    case.assertEqual({name: named[name] for name in names}, names)
    return result


def chain_book():
    """Four patches: 2 requires 1, 3 conflicts with 1 and 2 by their cell, 4 is independent of all."""
    book = Book([10, 20, 30])
    book.make_patch([(0, 11)])
    book.make_patch([(0, 12), (1, 22)], requires=(1,))
    book.make_patch([(0, 13)], size=5)
    book.make_patch([(2, 34)])
    return book


# Tuples that are no versions of chain_book: disorder, a number twice, no patches, a need, conflicts.
NO_VERSIONS = ((2, 1), (1, 1), (0,), (-1,), (-1, 1), (5,), (1, 5), (10 ** 40,), (-10 ** 40,), (2,), (2, 4), (1, 3), (1, 2, 3))


def wide_book(patches=60):
    """Patches that all write different cells and need nothing: every set of them is a version."""
    book = Book([0] * patches)
    for cell in range(patches):
        book.make_patch([(cell, cell + 1)])
    return book


def example_book():
    """The book of point 78: three patches for one cell, of which 2 requires 1 and 3 conflicts with both."""
    book = Book([0])
    book.make_patch([(0, 1)])
    book.make_patch([(0, 2)], requires=(1,))
    book.make_patch([(0, 3)])
    return book


EXAMPLE_REQUESTS = (((1, 2), 3), ((3,), 1), ((1, 2), 1))


def random_case(case, seed, most=6, attempts=6):
    """Return a random book, all its versions, a home, a list of requests, and the source of further choices."""
    source = random.Random(seed)
    book, model = random_book(case, seed, attempts=attempts)
    versions = model.versions()
    requests = [(source.choice(versions), source.randrange(1, 6)) for _ in range(source.randrange(most + 1))]
    return book, versions, source.choice(versions), requests, source


def least_cost(versions, home, asks, move, serve):
    """The least cost of all plans; move(place, entry) is paid ahead of an ask, and serve(ask, entry) at it."""
    costs = {home: 0}
    for ask in asks:
        costs = {
            entry: min(cost + move(place, entry) for place, cost in costs.items()) + serve(ask, entry)
            for entry in versions}
    return min(costs.values())


def toggling(book, prices):
    """What a move costs if each patch has one price for both ways."""
    return lambda place, entry: sum(prices[n - 1] * book.size_of(n) for n in set(place) ^ set(entry))


def looking(book, look):
    """What a request costs."""
    return lambda ask, entry: look * ask[1] * sum(book.size_of(n) for n in set(ask[0]) ^ set(entry))


def all_rows(length):
    """All rows of this length."""
    return [list(row) for row in itertools.product((False, True), repeat=length)]

"""A keeper moves a copy without knowing later requests."""

from livecopy.ends import disagrees
from livecopy.errors import BadBound, BadCount, BadState, BoundClash, NoClash
from livecopy.masks import bit_of, has, mask_of, numbers_of
from livecopy.pricing import check_related
from livecopy.requests import check_look, check_toggle, request_asks, spell_out
from livecopy.versions import version_of


class Keeper:
    """A home, and for each patch a counter that goes up and down with the requests."""

    def __init__(self, book, home, *, bound=2, look=1, toggle=1):
        mask = book.version_mask(home)
        clash = bound_clash(book, bound)
        if clash is not None:
            first, second = clash
            raise BoundClash(first, second)
        check_look(look)
        check_toggle(toggle)
        bounds = _bounds(book, bound)
        self.home = home
        self.cost = 0
        self._book = book
        self._bound = bound if isinstance(bound, int) else bounds
        self._look_price = look
        self._toggle_price = toggle
        self._counters = [most if has(mask, number) else 0 for number, most in zip(book, bounds)]

    def request(self, version, count=1):
        """Serve as many single requests for the version one after another, and return what they cost."""
        wanted = self._book.version_mask(version)
        if count < 1:
            raise BadCount(count)
        before = self._book.version_mask(self.home)
        bounds = _bounds(self._book, self._bound)
        behind = before
        cost = 0
        counters = []
        for number, counter in enumerate(self.counters(), start=1):
            on = has(before, number)
            side, moved, looks = _followed(on, counter, bounds[number - 1], has(wanted, number), count)
            price = looks * self._look_price
            if side != on:
                price += self._toggle_price
                behind = behind ^ bit_of(number)
            cost += self._book.size_of(number) * price
            counters.append(moved)
        self._counters = counters
        self.home = numbers_of(behind)
        self.cost += cost
        return cost

    def counters(self):
        """Return the list of the counters."""
        # A patch that was made later is off, and no request has asked for it.
        later = len(self._book) - len(self._counters)
        return self._counters + [0] * later

    def state(self):
        """Return the triple from which another keeper can continue."""
        return self.home, tuple(self.counters()), self.cost

    @staticmethod
    def resumed(book, state, *, bound=2, look=1, toggle=1):
        """Return a keeper that continues from the state of another one."""
        keeper = Keeper(book, (), bound=bound, look=look, toggle=toggle)
        home, counters, cost = state
        mask = book.find_mask(home)
        if mask is None or cost < 0 or len(counters) != len(book):
            raise BadState(0)
        for number, most in zip(book, _bounds(book, bound)):
            counter = counters[number - 1]
            least = 1 if has(mask, number) else 0
            if not least <= counter < most + least or disagrees(book, counters, number, most):
                raise BadState(number)
        keeper.home = home
        keeper.cost = cost
        keeper._counters = list(counters)
        return keeper


def check_bound(bound):
    """Refuse a bound that is less than 1."""
    if bound < 1:
        raise BadBound(bound)


def bound_clash(book, bound):
    """Return the least pair of related patches with different bounds, or None."""
    bounds = _bounds(book, bound)
    if len(set(bounds)) < 2:
        return None
    for first in book:
        for second in book.later_relatives(first):
            if bounds[first - 1] != bounds[second - 1]:
                return first, second
    return None


def side_sets(book, home, requests, bound):
    """Return the patches that are on behind each single request, if each one follows its own bound."""
    mask = book.version_mask(home)
    request_asks(book, requests)
    single = spell_out(requests)
    bounds = _bounds(book, bound)
    counters = [most if has(mask, number) else 0 for number, most in zip(book, bounds)]
    sets = []
    for version, _ in single:
        wanted = book.version_mask(version)
        moves = [
            _followed(has(mask, number), counters[number - 1], bounds[number - 1], has(wanted, number), 1)
            for number in book]
        counters = [move[1] for move in moves]
        mask = mask_of([number for number, move in enumerate(moves, start=1) if move[0]])
        sets.append(numbers_of(mask))
    return sets


def bound_requests(book, first, second, bound):
    """Return requests behind which two related patches with different bounds do not stand together as they must."""
    check_related(book, first, second)
    bounds = _bounds(book, bound)
    if bounds[first - 1] == bounds[second - 1]:
        raise NoClash(first, second)
    relation = book.relation(first, second)
    lesser = bounds[first - 1] < bounds[second - 1]
    # `above` is the one that requires the other one, and of two foes the one with the greater bound.
    above, below = first, second
    if relation == "required" or (relation == "conflict" and lesser):
        above, below = second, first
    requests = [(version_of(book, (above,)), bounds[above - 1])]
    if relation == "conflict":
        requests.append((version_of(book, (below,)), bounds[below - 1]))
    elif bounds[above - 1] > bounds[below - 1]:
        requests.append(((), bounds[below - 1]))
    return requests


def _followed(on, counter, most, asked, count):
    """Return the side and the counter of one patch behind `count` equal requests, and the looks past it."""
    room = most - counter if asked else counter
    moved = counter + min(count, room) if asked else counter - min(count, room)
    if on == asked:
        return on, moved, 0
    # The request that takes the counter to its end is still looked past; then the patch is toggled.
    if count < room:
        return on, moved, count
    return asked, moved, room


def _bounds(book, bound):
    """Return the list of the bounds of all patches, for one bound or a list of bounds."""
    if isinstance(bound, int):
        check_bound(bound)
        return [bound] * len(book)
    if len(bound) != len(book):
        raise BadBound(len(bound))
    for most in bound:
        check_bound(most)
    return list(bound)

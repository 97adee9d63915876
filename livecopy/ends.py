"""What it costs at least to serve the requests so far and to end at any version."""

from livecopy.counters import clip
from livecopy.errors import BadCount, BadState
from livecopy.masks import has, numbers_of
from livecopy.requests import check_look, check_toggle


class EndTable:
    """Hears requests one at a time, and keeps one counter for each patch."""

    def __init__(self, book, home, *, look=1, toggle=1):
        mask = book.version_mask(home)
        check_look(look)
        check_toggle(toggle)
        self._book = book
        self._look_price = look
        self._toggle_price = toggle
        # The cost of the cheapest end, and for each patch by how much off is dearer than on, for size 1.
        self._cost = 0
        self._counters = [toggle if has(mask, number) else -toggle for number in book]

    def request(self, version, count=1):
        """Hear a request."""
        mask = self._book.version_mask(version)
        if count < 1:
            raise BadCount(count)
        weight = self._look_price * count
        counters = []
        cost = 0
        for number, counter in enumerate(self.counters(), start=1):
            vote = weight if has(mask, number) else -weight
            # Beside the cheaper end, the other one costs the absolute value of the counter more.
            off = max(counter, 0) + max(vote, 0)
            on = max(-counter, 0) + max(-vote, 0)
            cost += self._book.size_of(number) * min(off, on)
            counters.append(clip(off - on, self._toggle_price))
        self._counters = counters
        self._cost += cost

    def cost_to(self, version):
        """Return the least cost of a plan for the requests so far that ends at the version."""
        mask = self._book.version_mask(version)
        extra = 0
        for number, counter in enumerate(self.counters(), start=1):
            missed = max(-counter, 0) if has(mask, number) else max(counter, 0)
            extra += self._book.size_of(number) * missed
        return self._cost + extra

    def least(self):
        """Return the least cost of a plan for the requests so far."""
        return self._cost

    def counters(self):
        """Return for each patch the cost of ending with it off, minus that of ending with it on, for size 1."""
        # A patch that was made later would have stayed off at all requests, at no cost.
        later = len(self._book) - len(self._counters)
        return self._counters + [-self._toggle_price] * later

    def ends(self):
        """Return the patches that all cheapest ends contain, and those that only some of them contain."""
        counters = list(enumerate(self.counters(), start=1))
        needed = [number for number, counter in counters if counter > 0]
        free = [number for number, counter in counters if counter == 0]
        return tuple(needed), tuple(free)

    def state(self):
        """Return the pair from which another table can continue."""
        return self._cost, tuple(self.counters())

    @staticmethod
    def resumed(book, state, *, look=1, toggle=1):
        """Return a table that continues from the state of another one."""
        table = EndTable(book, (), look=look, toggle=toggle)
        cost, counters = state
        if cost < 0 or len(counters) != len(book):
            raise BadState(0)
        for number in book:
            if not -toggle <= counters[number - 1] <= toggle or disagrees(book, counters, number, 0):
                raise BadState(number)
        table._cost = cost
        table._counters = list(counters)
        return table


def disagrees(book, counters, number, most):
    """Return True if the counter of a patch is not possible beside those of the patches that are related to it.

    It must not be greater than that of a patch that is required, and together with that of a lesser
    foe it must not be greater than `most`.
    """
    patch = book.patch(number)
    counter = counters[number - 1]
    for needed in numbers_of(patch.needs):
        if counter > counters[needed - 1]:
            return True
    for foe in numbers_of(patch.foes):
        if foe < number and counter + counters[foe - 1] > most:
            return True
    return False

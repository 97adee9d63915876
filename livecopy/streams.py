"""Streams: the best plan for requests that are heard one at a time, told as soon as it is certain."""

from livecopy.counters import clip
from livecopy.errors import BadCount, StreamClosed
from livecopy.masks import has
from livecopy.requests import check_look, check_toggle
from livecopy.versions import version_of


class Stream:
    """Hears requests, and returns each entry of the best plan when no further request can change it.

    Each patch has a row with its certain sides. A forward number above the toggle price, or not above
    the negative one, is out of reach for all that follows: it makes the sides of its patch certain up to
    its own request, and they are all the same behind the last request that did so before.
    """

    def __init__(self, book, home, *, look=1, toggle=1):
        mask = book.version_mask(home)
        check_look(look)
        check_toggle(toggle)
        self.pending = 0
        self._book = book
        self._look_price = look
        self._toggle_price = toggle
        self._heard = 0
        self._told = []
        self._closed = False
        self._counters = [toggle if has(mask, number) else -toggle for number in book]
        self._rows = [[] for _ in book]

    def request(self, version, count=1):
        """Hear a request, and return the list of the entries that are settled by it."""
        self._refuse_if_closed()
        mask = self._book.version_mask(version)
        if count < 1:
            raise BadCount(count)
        self._grow()
        self._heard += 1
        price = self._toggle_price
        weight = self._look_price * count
        counters = []
        for number, counter in enumerate(self._counters, start=1):
            ahead = counter + (weight if has(mask, number) else -weight)
            if ahead > price or ahead <= -price:
                self._make_certain(number, ahead > price)
            counters.append(clip(ahead, price))
        self._counters = counters
        return self._tell(min([len(row) for row in self._rows], default=self._heard))

    def close(self):
        """End the stream, and return the list of the remaining entries."""
        self._refuse_if_closed()
        for number, counter in enumerate(self._counters, start=1):
            self._make_certain(number, counter > 0)
        self._closed = True
        return self._tell(self._heard)

    def told(self):
        """Return the list of all entries that were returned."""
        return list(self._told)

    def doubt(self):
        """Return the first pending entry, a patch of which it is uncertain, and a request for either side."""
        if self.pending == 0:
            return None
        index = len(self._told)
        number = min([place for place, row in enumerate(self._rows, start=1) if len(row) <= index])
        count = (self._toggle_price + self._look_price - 1) // self._look_price
        return index, number, (version_of(self._book, (number,)), count), ((), count)

    def _refuse_if_closed(self):
        if self._closed:
            raise StreamClosed()

    def _grow(self):
        """Add the patches that were made since the last call: they were off at all requests."""
        later = len(self._book) - len(self._rows)
        self._counters.extend([-self._toggle_price] * later)
        self._rows.extend([[False] * self._heard for _ in range(later)])

    def _make_certain(self, number, side):
        """Fill the row of a patch with this side, up to the last request that was heard."""
        row = self._rows[number - 1]
        row.extend([side] * (self._heard - len(row)))

    def _tell(self, settled):
        """Return the entries up to so many that were not returned before."""
        entries = [
            tuple([number for number, row in enumerate(self._rows, start=1) if row[place]])
            for place in range(len(self._told), settled)]
        self._told.extend(entries)
        self.pending = self._heard - len(self._told)
        return entries

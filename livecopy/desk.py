"""A desk: a book, named versions, a live copy and a keeper, with a journal of all that is done."""

from livecopy.book import Book
from livecopy.changes import loose_version, put_version
from livecopy.collect import collect_copy, living_range
from livecopy.deeds import copied_deed, deed_line, read_deed
from livecopy.errors import (
    BadBound, BadDeed, BadLine, BadName, BadPlace, BadPrice, LivecopyError, NothingToUndo, UnknownName)
from livecopy.keeper import Keeper
from livecopy.lines import Lines, joined_lines, number_text, numbers_line, read_name
from livecopy.live import LiveCopy
from livecopy.masks import mask_of
from livecopy.requests import size_in
from livecopy.subbook import translate
from livecopy.versions import join, meet, without


class Desk:
    """Does deeds one after another, and takes them back."""

    def __init__(self, base, *, bound=2, look=1, toggle=1):
        book = Book(base)
        keeper = Keeper(book, (), bound=bound, look=look, toggle=toggle)
        self._base = list(base)
        self._bound = bound
        self._look_price = look
        self._toggle_price = toggle
        self._names = {"base": ()}
        self._journal = []
        # For each deed of the journal what is needed to go back to where the desk was ahead of it.
        self._marks = []
        self._use(LiveCopy(book), keeper)

    def do(self, deed):
        """Do a deed, and return the value that was read, if there is one."""
        mark = (self.book, len(self.book), dict(self._names), self._keeper.state())
        value = self._done(deed)
        self._journal.append(copied_deed(deed))
        self._marks.append(mark)
        return value

    def journal(self):
        """Return the list of the deeds that were done and not taken back."""
        return [copied_deed(deed) for deed in self._journal]

    def undo(self):
        """Take back the last deed, and return it."""
        if len(self._journal) == 0:
            raise NothingToUndo()
        deed = self._journal[-1]
        self.back_to(len(self._journal) - 1)
        return deed

    def back_to(self, count):
        """Take back all but so many of the first deeds."""
        if not 0 <= count <= len(self._journal):
            raise BadPlace(count)
        if count == len(self._journal):
            return
        book, patches, names, state = self._marks[count]
        if len(book) != patches:
            book = book.first_patches(patches)
        del self._journal[count:]
        del self._marks[count:]
        self._names = names
        keeper = self._resumed(book, state)
        self._use(LiveCopy(book, keeper.home), keeper)

    def names(self):
        """Return the pairs (name, version) of all bound names, by ascending name."""
        return [(name, self._names[name]) for name in sorted(self._names)]

    def row(self, name):
        """Return the values of a version at all cells, without a request."""
        return self._copy.read_row(self._version(name))

    def live_row(self):
        """Return the list of the live cells."""
        return list(self._copy)

    def text(self):
        """Return the text of the desk."""
        bound = number_text(self._bound)
        look = number_text(self._look_price)
        toggle = number_text(self._toggle_price)
        first = f"desk bound {bound} look {look} toggle {toggle}"
        return joined_lines([first, numbers_line("base", self._base), *[deed_line(deed) for deed in self._journal]])

    @staticmethod
    def replay(base, deeds, *, bound=2, look=1, toggle=1):
        """Return a desk on which these deeds were done."""
        desk = Desk(base, bound=bound, look=look, toggle=toggle)
        for index, deed in enumerate(deeds):
            try:
                desk.do(deed)
            except LivecopyError:
                raise BadDeed(index)
        return desk

    @staticmethod
    def parse(text):
        """Return the desk of a text."""
        lines = Lines(text)
        bound, look, toggle = _read_prices(lines.take())
        line = lines.take()
        base = line.take_base()
        if len(base) == 0:
            line.refuse()
        desk = Desk(base, bound=bound, look=look, toggle=toggle)
        while not lines.is_over():
            line = lines.take()
            deed = read_deed(line)
            try:
                desk.do(deed)
            except LivecopyError:
                raise BadLine(line.place)
        return desk

    def _done(self, deed):
        """Do a deed, and return what `do` returns."""
        match deed:
            case ("drop", name):
                self._version(name)
                del self._names[name]
            case ("read", name, cell):
                return self._read(self._version(name), cell)
            case ("collect",):
                self._collect()
            case _:
                if read_name(deed[1]) is None:
                    raise BadName(deed[1])
                self._names[deed[1]] = self._made(deed)
        return None

    def _made(self, deed):
        """Return the version to which a deed binds a name."""
        match deed:
            case ("put", _, source, writes):
                return put_version(self.book, self._version(source), writes)
            case ("loose", _, source, writes):
                return loose_version(self.book, self._version(source), writes)
            case ("join", _, first, second):
                return join(self.book, self._version(first), self._version(second))
            case ("meet", _, first, second):
                return meet(self.book, self._version(first), self._version(second))
            case ("without", _, first, second):
                return without(self.book, self._version(first), self._version(second))

    def _version(self, name):
        if name not in self._names:
            raise UnknownName(name)
        return self._names[name]

    def _read(self, version, cell):
        value = self._copy.read(version, cell)
        self._keeper.request(version)
        self._copy.lead(self._keeper.home)
        self._use(self._copy, self._keeper)
        return value

    def _collect(self):
        """Replace the book by one that has only what the bound versions need."""
        living = [self._names[name] for name in self._names]
        copy, numbers = collect_copy(self._copy, living)
        common, some = living_range(self.book, living)
        home = self.book.version_mask(self.home)
        # The row of the new home is that of this version of the old book.
        kept = self.book.version_mask(common) | (home & mask_of(some))
        cost = self.cost + self._toggle_price * size_in(self.book, home ^ kept)
        counters = self._keeper.counters()
        state = (copy.home, tuple([counters[number - 1] for number in numbers]), cost)
        self._names = {name: translate(numbers, self._names[name]) for name in self._names}
        self._use(copy, self._resumed(copy.book, state))

    def _resumed(self, book, state):
        """Return a keeper for a book that continues from a state."""
        return Keeper.resumed(book, state, bound=self._bound, look=self._look_price, toggle=self._toggle_price)

    def _use(self, copy, keeper):
        """Go on with a copy and a keeper."""
        self.book = copy.book
        self.home = copy.home
        self.cost = keeper.cost
        self._copy = copy
        self._keeper = keeper


def _read_prices(line):
    """Read the first line of the text of a desk, and return the bound and the prices."""
    line.expect("desk")
    bound = line.take_number_behind("bound")
    look = line.take_number_behind("look")
    toggle = line.take_number_behind("toggle")
    line.finish()
    try:
        Desk([0], bound=bound, look=look, toggle=toggle)
    except (BadBound, BadPrice):
        raise BadLine(line.place)
    return bound, look, toggle

"""The errors that the program raises.

Each error has its arguments as fields. It builds no text of them: a field may be a number
that is too long to be shown.
"""


class LivecopyError(ValueError):
    """The base class of all errors of this package."""


class BadCell(LivecopyError):
    """The row has no such cell."""

    def __init__(self, cell):
        self.cell = cell


class EmptyPatch(LivecopyError):
    """A patch would write nothing."""


class DuplicateCell(LivecopyError):
    """A patch would write a cell twice."""

    def __init__(self, cell):
        self.cell = cell


class UnknownPatch(LivecopyError):
    """The book has no patch with this number."""

    def __init__(self, number):
        self.number = number


class BadSize(LivecopyError):
    """The size of a patch would be negative."""

    def __init__(self, size):
        self.size = size


class Conflict(LivecopyError):
    """Two patches that conflict would stand together."""

    def __init__(self, first, second):
        self.first = first
        self.second = second


class NotAVersion(LivecopyError):
    """The tuple is not a version of the book."""

    def __init__(self, version):
        self.version = version


class NotInside(LivecopyError):
    """The version `low` is not contained in the version `high`."""

    def __init__(self, low, high):
        self.low = low
        self.high = high


class TooMany(LivecopyError):
    """There would be more results than the limit allows."""

    def __init__(self, limit):
        self.limit = limit


class NotATree(LivecopyError):
    """The book is not a tree: these two patches are independent."""

    def __init__(self, first, second):
        self.first = first
        self.second = second


class CannotToggle(LivecopyError):
    """The home would not be a version behind the toggle."""

    def __init__(self, number, reason, other):
        self.number = number
        self.reason = reason
        self.other = other


class CopyPinned(LivecopyError):
    """The copy is pinned and cannot be moved."""


class NotPinned(LivecopyError):
    """The copy has no pin that could be released."""


class BadOrder(LivecopyError):
    """The order of patches is wrong at this index."""

    def __init__(self, index):
        self.index = index


class NoVersions(LivecopyError):
    """There is no living version."""


class BadRequest(LivecopyError):
    """The request at this index is not possible."""

    def __init__(self, index):
        self.index = index


class BadPrice(LivecopyError):
    """The price, or the length of a list of prices, is not possible."""

    def __init__(self, price):
        self.price = price


class BadPlan(LivecopyError):
    """The plan is wrong at this index."""

    def __init__(self, index):
        self.index = index


class BadCount(LivecopyError):
    """The count is less than 1."""

    def __init__(self, count):
        self.count = count


class WishClash(LivecopyError):
    """A wish would want and reject the same patch."""

    def __init__(self, number):
        self.number = number


class BadWish(LivecopyError):
    """The entry at this index is not a closed wish."""

    def __init__(self, index):
        self.index = index


class BadStretch(LivecopyError):
    """The stretch is negative."""

    def __init__(self, stretch):
        self.stretch = stretch


class PriceClash(LivecopyError):
    """The prices of two related patches do not fit."""

    def __init__(self, first, second, multiple):
        self.first = first
        self.second = second
        self.multiple = multiple


class NotRelated(LivecopyError):
    """The two patches are equal or independent."""

    def __init__(self, first, second):
        self.first = first
        self.second = second


class NoClash(LivecopyError):
    """The two patches do not clash."""

    def __init__(self, first, second):
        self.first = first
        self.second = second


class CheapOn(LivecopyError):
    """Switching on is cheaper than switching off, and these two patches conflict."""

    def __init__(self, first, second):
        self.first = first
        self.second = second


class BadCounter(LivecopyError):
    """A number of a certificate is missing or out of its range."""

    def __init__(self, number, index):
        self.number = number
        self.index = index


class NotBest(LivecopyError):
    """The plan costs more than the bound, by this gap."""

    def __init__(self, gap):
        self.gap = gap


class BadState(LivecopyError):
    """The saved state does not fit at this place."""

    def __init__(self, place):
        self.place = place


class BadEvent(LivecopyError):
    """The event at this index is not possible."""

    def __init__(self, index):
        self.index = index


class BadBound(LivecopyError):
    """The bound, or the length of a list of bounds, is not possible."""

    def __init__(self, bound):
        self.bound = bound


class BoundClash(LivecopyError):
    """Two related patches have different bounds."""

    def __init__(self, first, second):
        self.first = first
        self.second = second


class BadRule(LivecopyError):
    """The state of a rule at this index is not possible."""

    def __init__(self, index):
        self.index = index


class StreamClosed(LivecopyError):
    """The stream is closed."""


class BadIndex(LivecopyError):
    """The list has no entry at this index."""

    def __init__(self, index):
        self.index = index


class BadProcedure(LivecopyError):
    """Two procedures have the same name."""

    def __init__(self, name):
        self.name = name


class BadStatement(LivecopyError):
    """The statement with this number is not possible."""

    def __init__(self, number):
        self.number = number


class BadTurn(LivecopyError):
    """The turn at this index names no task."""

    def __init__(self, index):
        self.index = index


class BadLine(LivecopyError):
    """The text is wrong at this line."""

    def __init__(self, line):
        self.line = line


class BadName(LivecopyError):
    """The text is not a name."""

    def __init__(self, name):
        self.name = name


class UnknownName(LivecopyError):
    """The name is not bound."""

    def __init__(self, name):
        self.name = name


class NothingToUndo(LivecopyError):
    """There is no deed that could be taken back."""


class BadPlace(LivecopyError):
    """The journal has no such place."""

    def __init__(self, place):
        self.place = place


class BadDeed(LivecopyError):
    """The deed at this index raised an error."""

    def __init__(self, index):
        self.index = index

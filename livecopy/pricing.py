"""Prices that fit a book: in which stretches they lie, and where they clash."""

from livecopy.errors import NotRelated
from livecopy.requests import check_look, check_toggle, toggle_prices


def stretches(look, toggle):
    """Return the ascending tuple of the stretches that contain a toggle price."""
    check_look(look)
    check_toggle(toggle)
    stretch, rest = divmod(2 * toggle, look)
    if rest == 0 and stretch > 0:
        return stretch - 1, stretch
    return (stretch,)


def price_clash(book, *, look=1, toggle=1):
    """Return the least pair of related patches that clash, with the multiple between them, or None."""
    check_look(look)
    prices = toggle_prices(book, toggle)
    if len(set(prices)) < 2:
        return None
    for first in book:
        for second in book.later_relatives(first):
            multiple = multiple_between(look, prices[first - 1], prices[second - 1])
            if multiple is not None:
                return first, second, multiple
    return None


def multiple_between(look, price, other):
    """Return the least multiple of the look price strictly between two doubled prices, or None."""
    multiple = (2 * min(price, other) // look + 1) * look
    if multiple < 2 * max(price, other):
        return multiple
    return None


def check_related(book, first, second):
    """Refuse two patches that are equal or independent."""
    if book.relation(first, second) in ("same", "independent"):
        raise NotRelated(first, second)

"""Wishes: some patches are wanted, some are unwanted, and the rest does not matter."""

from livecopy.errors import BadCount, BadWish, WishClash
from livecopy.masks import bit_of, full_mask, least_of, numbers_of
from livecopy.requests import ask_parts, check_look, check_toggle, least_plan, parts_cost, plan_masks, toggle_prices
from livecopy.versions import version_of


def close_wish(book, wanted, unwanted):
    """Return the pair of tuples with everything that follows from the wanted and the unwanted patches."""
    for number in wanted:
        book.patch(number)
    barred = 0
    for number in unwanted:
        barred = barred | book.patch(number).users | bit_of(number)
    asked = version_of(book, wanted)
    for number in asked:
        # Whatever requires one of the foes is a foe itself.
        barred = barred | book.patch(number).foes
    clashing = barred & book.version_mask(asked)
    if clashing:
        raise WishClash(least_of(clashing))
    return asked, numbers_of(barred)


def wish_of(book, version, count):
    """Return the wish that wants the patches of a version and rejects all others."""
    mask = book.version_mask(version)
    if count < 1:
        raise BadCount(count)
    return numbers_of(mask), numbers_of(full_mask(len(book)) ^ mask), count


def wish_cost(book, home, wishes, plan, *, look=1, toggle=1):
    """Return the cost of a plan for wishes."""
    place = book.version_mask(home)
    asks = _wish_asks(book, wishes)
    parts = ask_parts(book, place, asks, plan_masks(book, plan, len(wishes)))
    check_look(look)
    return parts_cost(book, parts, look, toggle_prices(book, toggle))


def best_wish_plan(book, home, wishes, *, look=1, toggle=1):
    """Return a plan of least cost for wishes and one toggle price."""
    place = book.version_mask(home)
    asks = _wish_asks(book, wishes)
    check_look(look)
    check_toggle(toggle)
    return least_plan(book, place, asks, look, [toggle] * len(book))


def _wish_asks(book, wishes):
    """Return the wishes as asks (point 36 lets only closed ones)."""
    asks = []
    for index, (wanted, unwanted, count) in enumerate(wishes):
        mask = book.find_mask(wanted)
        barred = book.find_set(unwanted)
        if mask is None or barred is None or count < 1 or not _is_closed(book, mask, barred):
            raise BadWish(index)
        asks.append((mask, barred, count))
    return asks


def _is_closed(book, mask, barred):
    """Return True if nothing further follows from this version and these unwanted patches."""
    follows = mask & barred
    for number in numbers_of(mask):
        follows = follows | (book.patch(number).foes & ~barred)
    for number in numbers_of(barred):
        follows = follows | (book.patch(number).users & ~barred)
    return follows == 0

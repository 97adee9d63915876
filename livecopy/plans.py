"""Plans: the bound below all of them, the best ones, and those for prices that do not fit."""

from math import isqrt

from livecopy.counters import side_sums, solo_cost
from livecopy.errors import CheapOn, NoClash, PriceClash
from livecopy.masks import has, least_of, numbers_of, versions_of
from livecopy.pricing import check_related, multiple_between, price_clash, stretches
from livecopy.requests import (
    ask_votes, check_look, check_toggle, cost_parts, least_plan, parts_cost, request_asks, size_in,
    toggle_prices)
from livecopy.tables import stretch_plan, stretch_row
from livecopy.versions import version_of


def patch_bound(book, home, requests, *, look=1, toggle=1):
    """Return the sum of what the patches cost at least, each one by itself."""
    place = book.version_mask(home)
    asks = request_asks(book, requests)
    check_look(look)
    prices = toggle_prices(book, toggle)
    return sum([
        book.size_of(number) * solo_cost(has(place, number), ask_votes(asks, number, look), price)
        for number, price in zip(book, prices)])


def best_plan(book, home, requests, *, look=1, toggle=1):
    """Return a plan that costs exactly the patch bound, for prices that fit."""
    place = book.version_mask(home)
    asks = request_asks(book, requests)
    check_look(look)
    prices = toggle_prices(book, toggle)
    if len(set(prices)) < 2:
        return least_plan(book, place, asks, look, prices)
    clash = price_clash(book, look=look, toggle=prices)
    if clash is not None:
        first, second, multiple = clash
        raise PriceClash(first, second, multiple)
    found = [stretches(look, price) for price in prices]
    rows = [_fitting_row(book, place, asks, found, number) for number in book]
    return versions_of(rows, len(asks))


def _fitting_row(book, place, asks, found, number):
    """Return the row of one patch in the plan for prices that fit; `found` holds the stretches of all patches.

    The row is chosen so that it lies below the rows of what the patch requires, above those of what
    requires it, and apart from those of its foes, whichever stretch these take.
    """
    rows = [stretch_row(has(place, number), asks, number, stretch) for stretch in found[number - 1]]
    if len(rows) == 1:
        return rows[0]
    lesser, greater = rows
    patch = book.patch(number)
    above = _shared_alone(found, number, patch.users)
    below = _shared_alone(found, number, patch.needs | patch.foes)
    if not above and not below:
        return greater
    if not below:
        return [one or other for one, other in zip(lesser, greater)]
    if not above:
        return [one and other for one, other in zip(lesser, greater)]
    return rows[found[number - 1].index(above[0])]


def _shared_alone(found, number, others):
    """Return the stretches of a patch that are the only common one with some of the others."""
    alone = []
    for other in numbers_of(others):
        common = [stretch for stretch in found[number - 1] if stretch in found[other - 1]]
        if len(common) == 1:
            alone.append(common[0])
    return alone


def clash_requests(book, first, second, *, look=1, toggle=1):
    """Return a home and requests for which two clashing prices make every plan dearer than the patch bound."""
    check_related(book, first, second)
    check_look(look)
    prices = toggle_prices(book, toggle)
    multiple = multiple_between(look, prices[first - 1], prices[second - 1])
    if multiple is None:
        raise NoClash(first, second)
    cheap, dear = first, second
    if prices[first - 1] > prices[second - 1]:
        cheap, dear = second, first
    outside = version_of(book, (dear,))
    inside = version_of(book, (cheap,))
    if has(book.patch(dear).needs, cheap):
        inside = ()
    if has(book.patch(cheap).needs, dear):
        outside = ()
    factor = multiple // look
    return outside, [(outside, factor + 1), (inside, factor), (outside, factor + 1)]


def middle_plan(book, home, requests, *, look=1, toggle=1):
    """Return the plan of a stretch between the least and the greatest toggle price."""
    book.version_mask(home)
    request_asks(book, requests)
    check_look(look)
    prices = toggle_prices(book, toggle, 1)
    # A book without patches has no prices, and any stretch gives the only plan that there is.
    middle = isqrt(4 * min(prices, default=0) * max(prices, default=0))
    return stretch_plan(book, home, requests, middle // look)


def two_price_cost(book, home, requests, plan, *, look=1, on=1, off=1):
    """Return the cost of a plan if switching on and switching off have prices of their own."""
    parts = cost_parts(book, home, requests, plan)
    check_look(look)
    check_toggle(on)
    check_toggle(off)
    cost = parts_cost(book, parts, look, [0] * len(book))
    place = book.version_mask(home)
    for version in plan:
        mask = book.version_mask(version)
        cost += on * size_in(book, mask & ~place) + off * size_in(book, place & ~mask)
        place = mask
    return cost


def two_price_plan(book, home, requests, *, look=1, on=1, off=1):
    """Return a plan of least cost if switching on and switching off have prices of their own."""
    place = book.version_mask(home)
    asks = request_asks(book, requests)
    check_look(look)
    check_toggle(on)
    check_toggle(off)
    if on < off:
        _refuse_foes(book)
    rows = []
    for number in book:
        sums = side_sums(has(place, number), ask_votes(asks, number, 2 * look), on + off, off - on)
        rows.append([total > 0 for total in sums])
    return versions_of(rows, len(asks))


def _refuse_foes(book):
    for first in book:
        if book.patch(first).foes:
            # The lesser one of a pair comes first, so the other one is later.
            raise CheapOn(first, least_of(book.patch(first).foes))

"""Requests, prices and plans, and what a plan costs."""

from livecopy.counters import least_row
from livecopy.errors import BadPlan, BadPrice, BadRequest, TooMany
from livecopy.masks import bit_of, full_mask, has, numbers_of, versions_of


def plan_cost(book, home, requests, plan, *, look=1, toggle=1):
    """Return the cost of a plan."""
    parts = cost_parts(book, home, requests, plan)
    check_look(look)
    return parts_cost(book, parts, look, toggle_prices(book, toggle))


def cost_parts(book, home, requests, plan):
    """Return for each patch how often the plan toggles it, and how many looks go past it."""
    place = book.version_mask(home)
    asks = request_asks(book, requests)
    return ask_parts(book, place, asks, plan_masks(book, plan, len(requests)))


def votes(book, requests, number, *, look=1):
    """Return for each request what it pays if the patch is off, or the negative if it pays for it being on."""
    asks = request_asks(book, requests)
    book.patch(number)
    check_look(look)
    return ask_votes(asks, number, look)


def gather(requests):
    """Join neighbouring requests for equal versions to one request."""
    joined = []
    for version, count in requests:
        if joined and joined[-1][0] == version:
            joined[-1] = (version, joined[-1][1] + count)
        else:
            joined.append((version, count))
    return joined


def spell_out(requests, limit=400):
    """Replace each request by as many requests with the count 1."""
    single = []
    for version, count in requests:
        # A count may be too large for a list, so it is compared before anything is added.
        if len(single) + count > limit:
            raise TooMany(limit)
        single.extend([(version, 1)] * count)
    return single


def request_asks(book, requests):
    """Return the requests as asks.

    An ask is a triple (wanted, unwanted, count) of two masks and a number: it looks `count` times
    past each wanted patch that is off and each unwanted patch that is on. A request wants or
    rejects every patch; a wish or an event leaves some patches open.
    """
    everything = full_mask(len(book))
    asks = []
    for index, (version, count) in enumerate(requests):
        mask = book.find_mask(version)
        if mask is None or count < 1:
            raise BadRequest(index)
        asks.append((mask, everything ^ mask, count))
    return asks


def ask_votes(asks, number, look):
    """Return the votes of the asks for one patch."""
    bit = bit_of(number)
    return [
        look * count if wanted & bit else -look * count if unwanted & bit else 0
        for wanted, unwanted, count in asks]


def ask_parts(book, place, asks, homes):
    """Return for each patch how often it is toggled from place through the homes, and how many looks go past it."""
    toggles = [0] * len(book)
    looks = [0] * len(book)
    for (wanted, unwanted, count), stand in zip(asks, homes):
        for number in numbers_of(place ^ stand):
            toggles[number - 1] += 1
        for number in numbers_of((wanted & ~stand) | (unwanted & stand)):
            looks[number - 1] += count
        place = stand
    return list(zip(toggles, looks))


def parts_cost(book, parts, look, prices):
    """Return what the toggles and looks of all patches cost together."""
    costs = [toggles * price + looks * look for (toggles, looks), price in zip(parts, prices)]
    return sum([book.size_of(number) * cost for number, cost in zip(book, costs)])


def size_in(book, mask):
    """Return the sum of the sizes of the patches in a mask."""
    return sum([book.size_of(number) for number in numbers_of(mask)])


def least_plan(book, place, asks, look, prices):
    """Return the plan in which each patch follows its least row."""
    rows = [
        least_row(has(place, number), ask_votes(asks, number, look), price) for number, price in zip(book, prices)]
    return versions_of(rows, len(asks))


def plan_masks(book, plan, length):
    """Return the masks of the entries of a plan for so many requests."""
    masks = []
    for index, version in enumerate(plan):
        mask = book.find_mask(version)
        if mask is None:
            raise BadPlan(index)
        masks.append(mask)
    if len(plan) != length:
        raise BadPlan(min(len(plan), length))
    return masks


def check_look(look):
    """Refuse a look price that is less than 1."""
    if look < 1:
        raise BadPrice(look)


def check_toggle(price, least=0):
    """Refuse a toggle price that is too small."""
    if price < least:
        raise BadPrice(price)


def toggle_prices(book, toggle, least=0):
    """Return the list of the toggle prices of all patches, for one price or a list of prices."""
    if isinstance(toggle, int):
        check_toggle(toggle, least)
        return [toggle] * len(book)
    if len(toggle) != len(book):
        raise BadPrice(len(toggle))
    for price in toggle:
        check_toggle(price, least)
    return list(toggle)

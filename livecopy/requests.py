"""Requests, prices and plans, and what a plan costs."""

from livecopy.errors import BadPlan, BadPrice, BadRequest, TooMany
from livecopy.masks import has, numbers_of


def plan_cost(book, home, requests, plan, *, look=1, toggle=1):
    """Return the cost of a plan."""
    parts = cost_parts(book, home, requests, plan)
    check_look(look)
    prices = toggle_prices(book, toggle)
    costs = [toggles * price + looks * look for (toggles, looks), price in zip(parts, prices)]
    return sum([book.size_of(number) * costs[number - 1] for number in book])


def cost_parts(book, home, requests, plan):
    """Return for each patch how often the plan toggles it, and how many looks go past it."""
    place = book.version_mask(home)
    asked = request_masks(book, requests)
    homes = plan_masks(book, plan, len(requests))
    toggles = [0] * len(book)
    looks = [0] * len(book)
    for (_, count), wanted, stand in zip(requests, asked, homes):
        for number in numbers_of(place ^ stand):
            toggles[number - 1] += 1
        for number in numbers_of(wanted ^ stand):
            looks[number - 1] += count
        place = stand
    return list(zip(toggles, looks))


def votes(book, requests, number, *, look=1):
    """Return for each request what it pays if the patch is off, or the negative if it pays for it being on."""
    asked = request_masks(book, requests)
    book.patch(number)
    check_look(look)
    return [look * count if has(mask, number) else -look * count for (_, count), mask in zip(requests, asked)]


def gather(requests):
    """Join neighbouring requests for equal versions to one request."""
    joined = []
    for version, count in requests:
        if joined and joined[-1][0] == version:
            joined[-1] = (version, joined[-1][1] + count)
        else:
            joined.append((version, count))
    return joined


def spell_out(requests, limit=400):
    """Replace each request by as many requests with the count 1."""
    single = []
    for version, count in requests:
        # A count may be too large for a list, so it is compared before anything is added.
        if len(single) + count > limit:
            raise TooMany(limit)
        single.extend([(version, 1)] * count)
    return single


def request_masks(book, requests):
    """Return the masks of the requested versions."""
    masks = []
    for index, (version, count) in enumerate(requests):
        mask = book.find_mask(version)
        if mask is None or count < 1:
            raise BadRequest(index)
        masks.append(mask)
    return masks


def plan_masks(book, plan, length):
    """Return the masks of the entries of a plan for so many requests."""
    masks = []
    for index, version in enumerate(plan):
        mask = book.find_mask(version)
        if mask is None:
            raise BadPlan(index)
        masks.append(mask)
    if len(plan) != length:
        raise BadPlan(min(len(plan), length))
    return masks


def check_look(look):
    """Refuse a look price that is less than 1."""
    if look < 1:
        raise BadPrice(look)


def check_toggle(price):
    """Refuse a toggle price that is negative."""
    if price < 0:
        raise BadPrice(price)


def toggle_prices(book, toggle):
    """Return the list of the toggle prices of all patches, for one price or a list of prices."""
    if isinstance(toggle, int):
        check_toggle(toggle)
        return [toggle] * len(book)
    if len(toggle) != len(book):
        raise BadPrice(len(toggle))
    for price in toggle:
        check_toggle(price)
    return list(toggle)

"""Logs with false entries: what was there at each look, if as little as possible is wrong."""

from livecopy.counters import side_sums
from livecopy.errors import BadIndex
from livecopy.masks import has, versions_of
from livecopy.requests import (
    ask_parts, ask_votes, check_look, check_toggle, least_plan, parts_cost, plan_masks, request_asks)


def story_sides(book, home, looks, *, look=1, toggle=1):
    """Return for each look the patches that all cheapest stories contain there, and those that only some contain."""
    place = book.version_mask(home)
    asks = request_asks(book, looks)
    check_look(look)
    check_toggle(toggle)
    sums = [side_sums(has(place, number), ask_votes(asks, number, look), toggle) for number in book]
    needed = versions_of([[total > 0 for total in row] for row in sums], len(asks))
    free = versions_of([[total == 0 for total in row] for row in sums], len(asks))
    return list(zip(needed, free))


def story_through(book, home, looks, index, version, *, look=1, toggle=1):
    """Return the least one of the cheapest stories that have this version at this look, and its cost."""
    place = book.version_mask(home)
    asks = request_asks(book, looks)
    if not 0 <= index < len(asks):
        raise BadIndex(index)
    book.version_mask(version)
    check_look(look)
    check_toggle(toggle)
    # So many looks at the version are worth more than the two toggles that would avoid it.
    demand = request_asks(book, [(version, 2 * toggle + 1)])
    prices = [toggle] * len(book)
    plan = least_plan(book, place, asks[:index] + demand + asks[index + 1:], look, prices)
    parts = ask_parts(book, place, asks, plan_masks(book, plan, len(asks)))
    return plan, parts_cost(book, parts, look, prices)

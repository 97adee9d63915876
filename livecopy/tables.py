"""Stretches of toggle prices in which one plan is best, and the table of all of these plans."""

from livecopy.counters import least_row, row_cost
from livecopy.errors import BadStretch
from livecopy.masks import has
from livecopy.requests import ask_votes, check_look, check_toggle, least_plan, request_asks


def stretch_plan(book, home, requests, stretch):
    """Return the plan that is best for the toggle prices of a stretch."""
    place = book.version_mask(home)
    asks = request_asks(book, requests)
    if stretch < 0:
        raise BadStretch(stretch)
    return least_plan(book, place, asks, 4, [_middle_price(stretch)] * len(book))


def price_table(book, home, requests):
    """Return the pairs (toggled, looked) of the stretch plans, by ascending stretch, each one once."""
    place = book.version_mask(home)
    asks = request_asks(book, requests)
    changes = {0: (0, 0)}
    for number in book:
        size = book.size_of(number)
        fewer, more = 0, 0
        for stretch, toggles, looks in _pieces(has(place, number), ask_votes(asks, number, 1)):
            toggled, looked = changes.get(stretch, (0, 0))
            changes[stretch] = (toggled + size * (toggles - fewer), looked + size * (looks - more))
            fewer, more = toggles, looks
    table = []
    toggled, looked = 0, 0
    for stretch in sorted(changes):
        more_toggled, more_looked = changes[stretch]
        toggled += more_toggled
        looked += more_looked
        table.append((toggled, looked))
    return table


def table_cost(table, *, look=1, toggle=1):
    """Return the least cost of a plan by its table."""
    check_look(look)
    check_toggle(toggle)
    return min([toggled * toggle + looked * look for toggled, looked in table])


def stretch_row(start, asks, number, stretch):
    """Return the row of one patch in the plan of a stretch."""
    return least_row(start, ask_votes(asks, number, 4), _middle_price(stretch))


def _middle_price(stretch):
    """Return four times the toggle price in the middle of a stretch, for the look price 1."""
    return 2 * stretch + 1


def _pieces(start, votes):
    """Return a triple (stretch, toggles, looks) for each least row of one patch.

    The triples stand by ascending stretch, which is the first one with this row. The least cost as
    a function of the price is a line within each stretch, and the lines become flatter. Where two
    of these lines cross, either they are neighbours, or there is a further one below the crossing;
    so no stretch is looked at in vain, however many there are.
    """
    pieces = [_piece(start, votes, 0)]
    # Behind the last stretch a single toggle costs more than all looks together.
    waiting = [_piece(start, votes, 2 * sum([abs(vote) for vote in votes]) + 2)]
    while waiting:
        _, toggles, looks = pieces[-1]
        _, fewer, more = waiting[-1]
        if toggles == fewer:
            waiting.pop()
            continue
        crossing = _piece(start, votes, 2 * (more - looks) // (toggles - fewer))
        if crossing[1] == fewer:
            pieces.append(crossing)
        else:
            waiting.append(crossing)
    return pieces


def _piece(start, votes, stretch):
    row = least_row(start, [4 * vote for vote in votes], _middle_price(stretch))
    toggles = row_cost(start, [0] * len(votes), 1, row)
    looks = row_cost(start, votes, 0, row)
    return stretch, toggles, looks

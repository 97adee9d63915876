"""Requests for a tree book that may be served in any order."""

from livecopy.errors import BadRequest
from livecopy.masks import has, mask_of, numbers_of, toggle_order
from livecopy.requests import check_look, check_toggle, request_asks
from livecopy.trees import tree_versions


def beyond(book, home, counts):
    """Return for each patch the sum of the counts of the versions that are not on its side of the home."""
    place, asks = _checked(book, home, counts)
    return _sums_beyond(book, place, asks)


def order_cost(book, home, counts, *, look=1, toggle=1):
    """Return the least cost of a plan over all orders of the requests."""
    place, asks = _checked(book, home, counts)
    check_look(look)
    check_toggle(toggle)
    parts = [min(look * many, 2 * toggle) for many in _sums_beyond(book, place, asks)]
    saved, _ = _best_end(book, place, parts, toggle)
    return sum([book.size_of(number) * part for number, part in zip(book, parts)]) - saved


def best_order(book, home, counts, *, look=1, toggle=1):
    """Return the requests in an order that costs least, and a plan for them."""
    place, asks = _checked(book, home, counts)
    check_look(look)
    check_toggle(toggle)
    sums = _sums_beyond(book, place, asks)
    _, last = _best_end(book, place, [min(look * many, 2 * toggle) for many in sums], toggle)
    crossed = last | mask_of([number for number, many in zip(book, sums) if look * many > 2 * toggle])
    # What lies behind a patch that is not crossed is served from the nearest version on this side of it.
    stands = [place ^ ((place ^ ask[0]) & crossed) for ask in asks]
    order = sorted(range(len(asks)), key=lambda at: _branch(place, stands[at], last))
    return [counts[index] for index in order], [numbers_of(stands[index]) for index in order]


def _checked(book, home, counts):
    """Return the mask of the home, and the asks of the requests for different versions."""
    tree_versions(book)
    place = book.version_mask(home)
    seen = set()
    for index, (version, count) in enumerate(counts):
        if version not in book or count < 1 or version in seen:
            raise BadRequest(index)
        seen.add(version)
    return place, request_asks(book, counts)


def _sums_beyond(book, place, asks):
    """Return for each patch how many looks are asked for on the other side of it."""
    sums = [0] * len(book)
    for wanted, _, count in asks:
        for number in numbers_of(place ^ wanted):
            sums[number - 1] += count
    return sums


def _best_end(book, place, parts, toggle):
    """Return what is saved at most by not coming back home, and the patches to be crossed for good.

    The parts are what each patch costs for size 1 if the copy comes back. Those that save nothing
    are behind the others on each way, so that the way can end ahead of them.
    """
    savings = [book.size_of(number) * max(0, part - toggle) for number, part in zip(book, parts)]
    best, last = 0, 0
    for version in tree_versions(book):
        saving = [number for number in numbers_of(place ^ book.version_mask(version)) if savings[number - 1] > 0]
        saved = sum([savings[number - 1] for number in saving])
        if saved > best:
            best, last = saved, mask_of(saving)
    return best, last


def _branch(place, stand, last):
    """Return a key that keeps each branch of the tree together, with the one to the last patches at the end."""
    return [(has(last, number), number) for number in toggle_order(place, stand)]

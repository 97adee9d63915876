"""The least cost of all plans for any prices, by trying all versions."""

from livecopy.masks import numbers_of
from livecopy.requests import check_look, request_asks, toggle_prices
from livecopy.versions import all_versions


def exact_cost(book, home, requests, *, look=1, toggle=1, limit=64):
    """Return the least cost of all plans."""
    cost, _ = _cheapest(book, home, requests, look, toggle, limit)
    return cost


def exact_plan(book, home, requests, *, look=1, toggle=1, limit=64):
    """Return a plan of least cost."""
    _, plan = _cheapest(book, home, requests, look, toggle, limit)
    return plan


def _cheapest(book, home, requests, look, toggle, limit):
    """Return the least cost and a plan that has it."""
    place = book.version_mask(home)
    asks = request_asks(book, requests)
    check_look(look)
    weights = [book.size_of(number) * price for number, price in zip(book, toggle_prices(book, toggle))]
    sizes = [book.size_of(number) for number in book]
    versions = all_versions(book, limit)
    masks = [book.version_mask(version) for version in versions]
    costs = [_weight(weights, place ^ mask) for mask in masks]
    moves = [[_weight(weights, one ^ other) for one in masks] for other in masks]
    # Ahead of each request: from which version it costs least to stand at each version.
    origins = []
    for wanted, _, count in asks:
        best = [_least(costs, move) for move in moves]
        origins.append([origin for _, origin in best])
        looks = [look * count * _weight(sizes, wanted ^ mask) for mask in masks]
        costs = [cost + looked for (cost, _), looked in zip(best, looks)]
    least = min(costs)
    return least, [versions[index] for index in _traced(origins, costs.index(least))]


def _weight(weights, mask):
    """Return the sum of the weights of the patches in a mask."""
    return sum([weights[number - 1] for number in numbers_of(mask)])


def _least(costs, moves):
    """Return the least sum of a cost and its move, and the index where it stands."""
    sums = [cost + move for cost, move in zip(costs, moves)]
    least = min(sums)
    return least, sums.index(least)


def _traced(origins, end):
    """Return the indexes of the versions at all requests on the way that ends at this one."""
    indexes = [end]
    for origin in origins[::-1]:
        indexes.append(origin[indexes[-1]])
    # The last one stands ahead of the first request.
    return indexes[:-1][::-1]

"""Certificates: numbers by which anyone can see that a plan is best."""

from livecopy.counters import backward
from livecopy.errors import BadCounter, NotBest
from livecopy.masks import has
from livecopy.plans import best_plan, patch_bound
from livecopy.requests import ask_votes, plan_cost, request_asks, toggle_prices


class Certificate:
    """A plan, and one list of numbers for each patch."""

    def __init__(self, plan, numbers):
        self.plan = list(plan)
        self.numbers = [list(row) for row in numbers]


def counter_bound(start, votes, toggle, numbers):
    """Return a bound for the cost of all rows, which holds if all numbers are from -toggle to toggle."""
    if len(votes) == 0:
        return 0
    bound = -numbers[0] if start else 0
    following = list(numbers[1:]) + [0]
    for vote, number, later in zip(votes, numbers, following):
        if vote > 0:
            bound += min(vote, number - later)
        else:
            bound += min(0, -vote + number - later)
    return bound


def certify(book, home, requests, plan, *, look=1, toggle=1):
    """Return the certificate of a plan that costs exactly the patch bound."""
    cost = plan_cost(book, home, requests, plan, look=look, toggle=toggle)
    bound = patch_bound(book, home, requests, look=look, toggle=toggle)
    if cost > bound:
        raise NotBest(cost - bound)
    asks = request_asks(book, requests)
    numbers = [
        backward(ask_votes(asks, number, look), price)[:-1]
        for number, price in zip(book, toggle_prices(book, toggle))]
    return Certificate(plan, numbers)


def certificate(book, home, requests, *, look=1, toggle=1):
    """Return the certificate of the best plan."""
    plan = best_plan(book, home, requests, look=look, toggle=toggle)
    return certify(book, home, requests, plan, look=look, toggle=toggle)


def check_certificate(book, home, requests, candidate, *, look=1, toggle=1):
    """Return the cost of the plan of a certificate, if the numbers show that no plan costs less."""
    cost = plan_cost(book, home, requests, candidate.plan, look=look, toggle=toggle)
    prices = toggle_prices(book, toggle)
    rows = list(candidate.numbers)
    for number, row in enumerate(rows[:len(book)], start=1):
        _refuse_row(number, row, len(requests), prices[number - 1])
    if len(rows) != len(book):
        raise BadCounter(min(len(rows), len(book)) + 1, 0)
    place = book.version_mask(home)
    asks = request_asks(book, requests)
    bound = sum([
        book.size_of(number) * counter_bound(has(place, number), ask_votes(asks, number, look), price, row)
        for number, price, row in zip(book, prices, rows)])
    if cost > bound:
        raise NotBest(cost - bound)
    return cost


def _refuse_row(number, row, length, price):
    """Raise BadCounter for the numbers of one patch that have a wrong length or are out of their range."""
    if len(row) != length:
        raise BadCounter(number, min(len(row), length))
    for index, entry in enumerate(row):
        if not -price <= entry <= price:
            raise BadCounter(number, index)

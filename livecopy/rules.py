"""Rules that say whether one patch is on, and the requests that serve them worst."""

from livecopy.counters import row_cost
from livecopy.errors import BadRule
from livecopy.requests import check_look, check_toggle


def rule_sides(rule, asked):
    """Return the list of the sides from which a rule serves the requests."""
    _check_rule(rule)
    sides = []
    place = 0
    for wanted in asked:
        side, after_off, after_on = rule[place]
        sides.append(side)
        place = after_on if wanted else after_off
    return sides


def rule_cost(rule, asked, *, look=1, toggle=1):
    """Return the cost of the sides of a rule."""
    sides = rule_sides(rule, asked)
    check_look(look)
    check_toggle(toggle)
    return row_cost(False, _asked_votes(asked, look), toggle, sides)


def foe(rule, length):
    """Return a list of requests, each of which asks for the side that the rule is not on."""
    _check_rule(rule)
    asked = []
    place = 0
    for _ in range(length):
        side, after_off, after_on = rule[place]
        asked.append(not side)
        place = after_off if side else after_on
    return asked


def side_costs(rule, asked, *, look=1, toggle=1):
    """Return what it costs to be always on, to be always off, and to be always where the rule is not."""
    sides = rule_sides(rule, asked)
    check_look(look)
    check_toggle(toggle)
    wishes = _asked_votes(asked, look)
    always_on = row_cost(False, wishes, toggle, [True] * len(sides))
    always_off = row_cost(False, wishes, toggle, [False] * len(sides))
    return always_on, always_off, row_cost(False, wishes, toggle, [not side for side in sides])


def _asked_votes(asked, look):
    """Return the votes of requests that ask for the patch or for its absence."""
    return [look if wanted else -look for wanted in asked]


def _check_rule(rule):
    """Refuse a rule without states, and one that leads to a state that it does not have."""
    if len(rule) == 0:
        raise BadRule(0)
    for index, (_, after_off, after_on) in enumerate(rule):
        if not 0 <= after_off < len(rule) or not 0 <= after_on < len(rule):
            raise BadRule(index)

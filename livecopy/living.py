"""Plans for a copy whose versions are made and dropped while it is in use."""

from livecopy.collect import living_masks, mask_range
from livecopy.counters import least_row
from livecopy.errors import BadEvent, BadPlan
from livecopy.masks import full_mask, has, numbers_of, versions_of
from livecopy.requests import ask_parts, ask_votes, check_look, check_toggle, parts_cost, plan_masks


def living_ranges(book, living, events):
    """Return for each event what all, and what some, of the versions contain that are living behind it."""
    ranges = _event_ranges(book, living_masks(book, living), events)
    return [(numbers_of(common), numbers_of(some)) for common, some in ranges]


def living_cost(book, home, living, events, plan, *, look=1, toggle=1):
    """Return the cost of a plan for events."""
    place = book.version_mask(home)
    ranges = _event_ranges(book, living_masks(book, living), events)
    homes = _event_homes(book, ranges, plan)
    check_look(look)
    check_toggle(toggle)
    parts = ask_parts(book, place, _event_asks(book, events), homes)
    return parts_cost(book, parts, look, [toggle] * len(book))


def living_plan(book, home, living, events, *, look=1, toggle=1):
    """Return the least one of the plans of least cost for events."""
    place = book.version_mask(home)
    ranges = _event_ranges(book, living_masks(book, living), events)
    check_look(look)
    check_toggle(toggle)
    asks = _event_asks(book, events)
    # No looks and toggles together are worth as much as what a range demands.
    demand = 2 * toggle + look * sum([ask[2] for ask in asks]) + 1
    rows = []
    for number in book:
        wishes = ask_votes(asks, number, look)
        rows.append(least_row(has(place, number), _demanded(wishes, ranges, number, demand), toggle))
    return versions_of(rows, len(events))


def _demanded(wishes, ranges, number, demand):
    """Return the votes for one patch, with greater ones where a range leaves no choice."""
    found = []
    for wish, (common, some) in zip(wishes, ranges):
        if has(common, number):
            found.append(demand)
        elif not has(some, number):
            found.append(-demand)
        else:
            found.append(wish)
    return found


def _event_ranges(book, masks, events):
    """Return the pairs of masks that tell the range behind each event."""
    alive = _counted(masks)
    ranges = []
    for index, event in enumerate(events):
        alive = _behind(book, alive, event)
        if len(alive) == 0:
            raise BadEvent(index)
        ranges.append(mask_range(list(alive)))
    return ranges


def _counted(masks):
    """Return how often each of the masks occurs."""
    many = {}
    for mask in masks:
        many[mask] = many.get(mask, 0) + 1
    return many


def _behind(book, alive, event):
    """Return how often each version is living behind an event, or an empty dict if the event is not possible."""
    mask = book.find_mask(event[1])
    if mask is None:
        return {}
    many = alive.get(mask, 0)
    changed = dict(alive)
    if event[0] == "make":
        changed[mask] = many + 1
    elif many == 0 or (event[0] == "read" and event[2] < 1):
        return {}
    elif event[0] == "drop":
        changed[mask] = many - 1
    return {version: changed[version] for version in changed if changed[version] > 0}


def _event_homes(book, ranges, plan):
    """Return the masks of the entries of a plan for events, each of them within its range."""
    for index, (version, (common, some)) in enumerate(zip(plan, ranges)):
        mask = book.find_mask(version)
        if mask is None or common & ~mask or mask & ~some:
            raise BadPlan(index)
    return plan_masks(book, plan, len(ranges))


def _event_asks(book, events):
    """Return the events as asks: only a read looks past anything."""
    everything = full_mask(len(book))
    asks = []
    for event in events:
        if event[0] == "read":
            mask = book.version_mask(event[1])
            asks.append((mask, everything ^ mask, event[2]))
        else:
            asks.append((0, 0, 0))
    return asks

"""One patch of size 1: what its rows cost, and which rows cost least."""


def row_cost(start, votes, toggle, row):
    """Return the cost of a row: its changes, and the votes against it."""
    cost = 0
    side = start
    for vote, on in zip(votes, row):
        if on != side:
            cost += toggle
        if (vote > 0 and not on) or (vote < 0 and on):
            cost += abs(vote)
        side = on
    return cost


def forward(start, votes, toggle):
    """Return the forward numbers d_1 .. d_n."""
    numbers = []
    counter = toggle if start else -toggle
    for vote in votes:
        numbers.append(counter + vote)
        counter = clip(counter + vote, toggle)
    return numbers


def backward(votes, toggle, *, last=0):
    """Return the backward numbers u_1 .. u_(n+1)."""
    numbers = [last]
    for vote in votes[::-1]:
        numbers.append(clip(numbers[-1] + vote, toggle))
    return numbers[::-1]


def solo_cost(start, votes, toggle):
    """Return the least cost of a row."""
    off, on = end_costs(start, votes, toggle)
    return min(off, on)


def least_row(start, votes, toggle):
    """Return the row of least cost that is on only where every such row is on."""
    return [total > 0 for total in side_sums(start, votes, toggle)]


def greatest_row(start, votes, toggle):
    """Return the row of least cost that is on wherever some such row is on."""
    return [total >= 0 for total in side_sums(start, votes, toggle)]


def end_costs(start, votes, toggle):
    """Return the least costs of a row behind which the patch must be off, or must be on."""
    on = 0 if start else toggle
    off = toggle - on
    for vote in votes:
        off += max(vote, 0)
        on += max(-vote, 0)
        off, on = min(off, on + toggle), min(on, off + toggle)
    return off, on


def side_sums(start, votes, toggle, last=0):
    """Return the sums d_i + u_(i+1): how much dearer it is to be off at i than to be on there."""
    later = backward(votes, toggle, last=last)
    return [ahead + later[place] for place, ahead in enumerate(forward(start, votes, toggle), start=1)]


def clip(number, toggle):
    """Return the number, cut to the range from -toggle to toggle."""
    return max(-toggle, min(toggle, number))

"""Sets of patches as integers: bit n of a mask stands for patch n.

Callers of the package pass tuples; inside it a set is one integer, so that sets are compared,
joined and cut in a single step, and are never iterated in an uncertain order.
"""


def bit_of(number):
    """Return the mask of one patch. The number must be known: a huge one would not fit into memory."""
    return 1 << number


def has(mask, number):
    """Return True if the mask contains the patch."""
    return mask >> number & 1 == 1


def least_of(mask):
    """Return the least number in a mask that is not empty."""
    return (mask & -mask).bit_length() - 1


def greatest_of(mask):
    """Return the greatest number in a mask that is not empty."""
    return mask.bit_length() - 1


def numbers_of(mask):
    """Return the numbers in a mask as an ascending tuple."""
    numbers = []
    while mask:
        lowest = mask & -mask
        numbers.append(lowest.bit_length() - 1)
        mask = mask ^ lowest
    return tuple(numbers)


def mask_of(numbers):
    """Return the mask of a list of different numbers."""
    return sum([bit_of(number) for number in numbers])


def toggle_order(start, goal):
    """Return the patches to toggle on the way from one version to another.

    The patches that leave come first, in descending order, so that each one goes behind those that
    require it. The patches that enter follow in ascending order, each one behind what it requires.
    """
    leaving = numbers_of(start & ~goal)
    return list(leaving[::-1]) + list(numbers_of(goal & ~start))


def full_mask(many):
    """Return the mask of the patches from 1 to this number."""
    return (1 << (many + 1)) - 2


def versions_of(rows, length):
    """Return the tuples of the patches that are on at each place; row k is that of patch k + 1."""
    return [tuple([number for number, row in enumerate(rows, start=1) if row[place]]) for place in range(length)]

"""Ways from version to version, one patch at a time."""

from livecopy.masks import bit_of, has, numbers_of, toggle_order


def steps(book, start, goal):
    """Yield the pairs (number, on) of the toggles that lead from one version to another."""
    first = book.version_mask(start)
    last = book.version_mask(goal)
    for number in toggle_order(first, last):
        yield number, has(last, number)


def way(book, start, goal):
    """Return the list of the versions on a shortest way, both ends included."""
    mask = book.version_mask(start)
    versions = [numbers_of(mask)]
    for number, _ in steps(book, start, goal):
        mask = mask ^ bit_of(number)
        versions.append(numbers_of(mask))
    return versions


def is_way(book, versions):
    """Return True if the list is a way."""
    masks = [book.find_mask(version) for version in versions]
    if len(masks) == 0 or None in masks:
        return False
    for place in range(1, len(masks)):
        changed = masks[place - 1] ^ masks[place]
        if changed == 0 or changed & (changed - 1) != 0:
            return False
    return True


def between(book, first, second, version):
    """Return True if the version lies on a shortest way between the two others."""
    one = book.version_mask(first)
    two = book.version_mask(second)
    mask = book.version_mask(version)
    return one & two & ~mask == 0 and mask & ~(one | two) == 0

"""Operations on the versions of a book."""

from livecopy.errors import Conflict, NotInside, TooMany
from livecopy.masks import bit_of, least_of, numbers_of


def version_of(book, patches):
    """Return the least version that contains all these patches."""
    mask = 0
    for number in patches:
        mask = mask | book.patch(number).needs | bit_of(number)
    return _version_in(book, mask)


def join(book, first, second):
    """Return the union of two versions."""
    return _version_in(book, book.version_mask(first) | book.version_mask(second))


def meet(book, first, second):
    """Return the intersection of two versions."""
    return numbers_of(book.version_mask(first) & book.version_mask(second))


def without(book, version, patches):
    """Return the version without these patches and without everything that requires one of them."""
    mask = book.version_mask(version)
    dropped = 0
    for number in patches:
        dropped = dropped | book.patch(number).users | bit_of(number)
    return numbers_of(mask & ~dropped)


def median(book, first, second, third):
    """Return the patches that are in at least two of three versions."""
    one = book.version_mask(first)
    two = book.version_mask(second)
    three = book.version_mask(third)
    return numbers_of((one & two) | (one & three) | (two & three))


def clamp(book, low, high, version):
    """Return the version between low and high that is nearest to a version."""
    bottom = book.version_mask(low)
    top = book.version_mask(high)
    mask = book.version_mask(version)
    if bottom & ~top:
        raise NotInside(low, high)
    return numbers_of(bottom | (mask & top))


def difference(first, second):
    """Return the numbers that are in exactly one of two ascending tuples."""
    return tuple(sorted(set(first) ^ set(second)))


def all_versions(book, limit=64):
    """Return the list of all versions, by their number of patches, then by the tuples."""
    masks = [0]
    for number in book:
        # A version stays a version without its greatest patch, so the list never shrinks again:
        # it can be given up as soon as it is too long.
        masks = masks + [mask | bit_of(number) for mask in masks if _may_enter(book.patch(number), mask)]
        if len(masks) > limit:
            raise TooMany(limit)
    return sorted([numbers_of(mask) for mask in masks], key=lambda version: (len(version), version))


def _may_enter(patch, mask):
    return patch.needs & ~mask == 0 and patch.foes & mask == 0


def _version_in(book, mask):
    """Return the version with this mask, which contains what its patches require; refuse conflicts."""
    numbers = numbers_of(mask)
    for number in numbers:
        clashing = book.patch(number).foes & mask
        if clashing:
            # No lesser patch clashes with anything, so this pair is the least one.
            raise Conflict(number, least_of(clashing))
    return numbers

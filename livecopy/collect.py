"""Collecting: a new book for the versions that are still in use."""

from livecopy.errors import NoVersions
from livecopy.live import LiveCopy
from livecopy.masks import numbers_of
from livecopy.plain import row_of
from livecopy.subbook import rebuilt, translate


def living_range(book, living):
    """Return the patches that all living versions contain, and those that at least one contains."""
    common, some = mask_range(living_masks(book, living))
    return numbers_of(common), numbers_of(some)


def collect(book, living):
    """Return a new book of what the living versions need, and the dict from old to new numbers."""
    common, some = mask_range(living_masks(book, living))
    base = row_of(book, numbers_of(common))
    return rebuilt(book, numbers_of(some & ~common), base)


def collect_copy(copy, living):
    """Return a new copy for the collected book of a copy, and the dict from old to new numbers."""
    book, numbers = collect(copy.book, living)
    return LiveCopy(book, translate(numbers, copy.home)), numbers


def living_masks(book, living):
    """Return the masks of the living versions."""
    if len(living) == 0:
        raise NoVersions()
    return [book.version_mask(version) for version in living]


def mask_range(masks):
    """Return the mask of what all of these masks contain, and of what at least one contains."""
    common = masks[0]
    some = masks[0]
    for mask in masks:
        common = common & mask
        some = some | mask
    return common, some

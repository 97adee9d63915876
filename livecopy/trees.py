"""Tree books: books in which any two different patches are related."""

from livecopy.errors import NotATree
from livecopy.masks import bit_of, greatest_of, has, numbers_of


def independent_pair(book):
    """Return the least pair of independent patches, or None for a tree."""
    for first in book:
        patch = book.patch(first)
        related = patch.foes | patch.users
        # What the first patch requires is earlier, so it cannot be the second one of the pair.
        for second in range(first + 1, len(book) + 1):
            if not has(related, second):
                return first, second
    return None


def tree_versions(book):
    """Return all versions of a tree: the empty one, then for each patch the patch with what it requires."""
    _refuse_other_books(book)
    return [()] + [numbers_of(book.patch(number).needs | bit_of(number)) for number in book]


def tree_parent(book, number):
    """Return the greatest number that the patch requires, or 0."""
    needs = book.patch(number).needs
    _refuse_other_books(book)
    if needs == 0:
        return 0
    return greatest_of(needs)


def _refuse_other_books(book):
    pair = independent_pair(book)
    if pair is not None:
        first, second = pair
        raise NotATree(first, second)

"""New books that are made of some or all patches of another book."""

from livecopy.book import Book
from livecopy.errors import BadOrder
from livecopy.masks import bit_of, has, numbers_of


def sub_book(book, patches):
    """Return a new book of the given patches, and the dict from their old numbers to the new ones."""
    mask = 0
    for number in patches:
        book.patch(number)
        mask = mask | bit_of(number)
    return rebuilt(book, numbers_of(mask), book.base_row())


def translate(numbers, version):
    """Return the new numbers of those patches of a version that are in the dict."""
    return tuple(sorted([numbers[number] for number in version if number in numbers]))


def renumber(book, order):
    """Return a new book with the same patches in another order, and the dict from old to new numbers."""
    mask = 0
    for index, number in enumerate(order):
        if not 1 <= number <= len(book) or has(mask, number) or book.patch(number).needs & ~mask:
            raise BadOrder(index)
        mask = mask | bit_of(number)
    if len(order) < len(book):
        raise BadOrder(len(order))
    return rebuilt(book, order, book.base_row())


def rebuilt(book, order, base):
    """Return a new book with this base and these patches in this order, and the dict of their numbers.

    Each patch stands behind those that it requires. All requirements and conflicts are passed on as
    direct ones: what lies between two patches may be left out.
    """
    new_book = Book(base)
    numbers = {}
    for number in order:
        requires = translate(numbers, book.required(number))
        conflicts = translate(numbers, book.conflicting(number))
        numbers[number] = new_book.make_patch(
            book.writes_of(number), requires=requires, conflicts=conflicts, size=book.size_of(number))
    return new_book, numbers

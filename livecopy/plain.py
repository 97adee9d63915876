"""Reading the values of versions without a live copy."""

from livecopy.masks import numbers_of


def writers(book, version, cell):
    """Return the patches of a version that write a cell, each one behind those that it requires."""
    mask = book.version_mask(version)
    return numbers_of(mask & book.writer_mask(cell))


def value_at(book, version, cell):
    """Return the value of a version at a cell."""
    chain = writers(book, version, cell)
    if len(chain) == 0:
        return book.base_row()[cell]
    return book.patch(chain[-1]).writes[cell]


def row_of(book, version):
    """Return the values of a version at all cells."""
    book.version_mask(version)
    row = book.base_row()
    for number in version:
        for cell, value in book.writes_of(number):
            row[cell] = value
    return row

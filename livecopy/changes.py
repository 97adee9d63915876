"""New versions that consist of an old one and one new patch."""

from livecopy.masks import greatest_of


def put_version(book, source, writes):
    """Make a patch that requires all patches of a version, and return the version with it."""
    return (*source, book.make_patch(writes, requires=source))


def loose_version(book, source, writes):
    """Make a patch that requires only the last writers of its cells, and return the version with it."""
    mask = book.version_mask(source)
    needs = []
    for cell, _ in writes:
        # A cell that is not in the row is left to make_patch, which refuses the writes in their order.
        if 0 <= cell < book.cells and book.writer_mask(cell) & mask:
            needs.append(greatest_of(book.writer_mask(cell) & mask))
    return (*source, book.make_patch(writes, requires=tuple(needs)))

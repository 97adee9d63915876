"""The live copy of a book: one version that is laid out as a plain row."""

from livecopy.errors import BadCell, CannotToggle, CopyPinned, NotPinned
from livecopy.masks import bit_of, greatest_of, has, least_of, numbers_of, toggle_order


class Pin:
    """A context manager that pins a copy for the length of a block."""

    def __init__(self, copy):
        self.held = copy

    def __enter__(self):
        self.held.hold()
        return self.held

    def __exit__(self, kind, value, trace):
        held = self.held
        held.pins -= 1


class LiveCopy:
    """A row that holds the values of one version, the home, and moves from version to version."""

    def __init__(self, book, home=()):
        mask = book.version_mask(home)
        self.book = book
        self.home = ()
        self.pins = 0
        self._mask = 0
        self._row = book.base_row()
        # Only what differs from the writes of a patch must stand here: a patch that was never on is
        # missing, whether it was made before the copy or later.
        self._saved = {}
        self._switch(numbers_of(mask))

    def __len__(self):
        return len(self._row)

    def __iter__(self):
        return iter(self._row)

    def __getitem__(self, at):
        if not 0 <= at < len(self._row):
            raise BadCell(at)
        return self._row[at]

    def toggle(self, number):
        """Switch a patch on or off, and return True if it is on now."""
        return self.toggle_all([number])[0]

    def toggle_all(self, numbers):
        """Toggle the patches of a list in order, all or none, and return the results."""
        mask = self._mask
        results = []
        # All toggles are tried on the mask before the first one is made, so none must be taken back.
        for number in numbers:
            self._refuse(number, mask)
            mask = mask ^ bit_of(number)
            results.append(has(mask, number))
        self._switch(numbers)
        return results

    def retrace(self, numbers):
        """Toggle the patches of a list in reverse order, all or none, and return the results."""
        return self.toggle_all(numbers[::-1])

    def lead(self, version):
        """Make a version the home, and return the list of the toggled patches."""
        mask = self.book.version_mask(version)
        if self.pins != 0 and mask != self._mask:
            raise CopyPinned()
        order = toggle_order(self._mask, mask)
        self._switch(order)
        return order

    def read(self, version, cell):
        """Return the value of any version at a cell."""
        return self._look(self.book.version_mask(version), cell)

    def read_row(self, version):
        """Return the values of any version at all cells."""
        order = toggle_order(self._mask, self.book.version_mask(version))
        row = list(self._row)
        for number in order:
            for cell, value in self._kept(number).items():
                row[cell] = value
        return row

    def read_many(self, version, cells):
        """Return the values of any version at the listed cells."""
        with Pin(self):
            mask = self.book.version_mask(version)
            return [self._look(mask, cell) for cell in cells]

    def saved(self, number):
        """Return the pairs (cell, saved value) of a patch by ascending cell."""
        return list(self._kept(number).items())

    def hold(self):
        """Add a pin: the copy is not moved while it has one."""
        self.pins += 1

    def release(self):
        """Remove a pin."""
        if self.pins == 0:
            raise NotPinned()
        self.pins -= 1

    def _refuse(self, number, home):
        """Raise the error of a toggle that is not possible while this mask is the home."""
        patch = self.book.patch(number)
        if self.pins != 0:
            raise CopyPinned()
        if has(home, number):
            if patch.users & home:
                raise CannotToggle(number, "required", least_of(patch.users & home))
            return
        if patch.needs & ~home:
            raise CannotToggle(number, "missing", least_of(patch.needs & ~home))
        if patch.foes & home:
            raise CannotToggle(number, "conflict", least_of(patch.foes & home))

    def _switch(self, numbers):
        """Exchange live and saved values for each of these patches, which may be toggled in this order."""
        for number in numbers:
            kept = self._kept(number)
            self._saved[number] = {cell: self._row[cell] for cell in kept}
            for cell, value in list(kept.items()):
                self._row[cell] = value
            self._mask = self._mask ^ bit_of(number)
        self.home = numbers_of(self._mask)

    def _kept(self, number):
        """Return the saved values of a patch as a dict, which is only read."""
        patch = self.book.patch(number)
        return self._saved.get(number, patch.writes)

    def _look(self, mask, cell):
        """Return the value of a version at a cell, past the patches in which it differs from the home."""
        differing = (mask ^ self._mask) & self.book.writer_mask(cell)
        if differing & mask:
            return self._kept(greatest_of(differing & mask))[cell]
        if differing:
            # All of these leave. What was there before the least one of them is saved in it.
            return self._kept(least_of(differing))[cell]
        return self._row[cell]

"""A book: a base row, and the patches that were made for it."""

from livecopy.errors import BadCell, BadSize, Conflict, DuplicateCell, EmptyPatch, NotAVersion, UnknownPatch
from livecopy.masks import bit_of, full_mask, has, least_of, numbers_of


class Patch:
    """What a book keeps of one patch; its sets of other patches are masks."""

    def __init__(self, writes, size, needs, foes):
        self.writes = writes
        self.size = size
        self.needs = needs
        # Later patches are added to these two: they may conflict with this one, or require it.
        self.foes = foes
        self.users = 0

    def among(self, mask):
        """Return the same patch as it is in a book with the patches of a mask alone."""
        patch = Patch(self.writes, self.size, self.needs, self.foes & mask)
        patch.users = self.users & mask
        return patch


class Book:
    """A base row and patches numbered 1, 2, 3 and so on, which are only ever added."""

    def __init__(self, base):
        if len(base) == 0:
            raise BadCell(0)
        self.cells = len(base)
        self._base = list(base)
        self._patches = []
        # A tuple that is replaced by a longer one: whoever iterates over the book may make patches.
        self._numbers = ()
        self._writers = [0] * len(base)

    def __len__(self):
        return len(self._patches)

    def __iter__(self):
        return iter(self._numbers)

    def __contains__(self, version):
        return self.find_mask(version) is not None

    def make_patch(self, writes, *, requires=(), conflicts=(), size=0):
        """Add a patch and return its number."""
        kept = self._checked_writes(writes)
        needs = 0
        for number in requires:
            needs = needs | self.patch(number).needs | bit_of(number)
        foes = 0
        for number in conflicts:
            foes = foes | self.patch(number).users | bit_of(number)
        if size < 0:
            raise BadSize(size)
        foes = foes | self._following_foes(kept, needs)
        self._refuse_clash(needs, foes)
        return self._add(Patch(kept, size or len(kept), needs, foes))

    def _checked_writes(self, writes):
        """Return the writes as a dict from cell to value, by ascending cell."""
        if len(writes) == 0:
            raise EmptyPatch()
        kept = {}
        for cell, value in writes:
            if not 0 <= cell < self.cells:
                raise BadCell(cell)
            if cell in kept:
                raise DuplicateCell(cell)
            kept[cell] = value
        return {cell: kept[cell] for cell in sorted(kept)}

    def _following_foes(self, writes, needs):
        """Return the patches with which a new patch conflicts by its writes and by what it requires.

        The foes of an old patch already contain whatever requires one of them. For the patches that
        write the same cells this must be added.
        """
        rivals = 0
        for cell in writes:
            rivals = rivals | self._writers[cell]
        rivals = rivals & ~needs
        foes = rivals
        for number in numbers_of(rivals):
            foes = foes | self.patch(number).users
        for number in numbers_of(needs):
            foes = foes | self.patch(number).foes
        return foes

    def _refuse_clash(self, needs, foes):
        """Raise Conflict if a new patch with these needs and foes could never be on."""
        new = len(self._patches) + 1
        for number in numbers_of(needs):
            clashing = self.patch(number).foes & needs
            if has(foes, number):
                clashing = clashing | bit_of(new)
            if clashing:
                raise Conflict(number, least_of(clashing))

    def _add(self, patch):
        number = len(self._patches) + 1
        for other in numbers_of(patch.foes):
            rival = self.patch(other)
            rival.foes = rival.foes | bit_of(number)
        for other in numbers_of(patch.needs):
            needed = self.patch(other)
            needed.users = needed.users | bit_of(number)
        for cell in list(patch.writes):
            self._writers[cell] = self._writers[cell] | bit_of(number)
        self._patches.append(patch)
        self._numbers = (*self._numbers, number)
        return number

    def base_row(self):
        """Return the base as a list."""
        return list(self._base)

    def writes_of(self, number):
        """Return the pairs (cell, value) of a patch by ascending cell."""
        return list(self.patch(number).writes.items())

    def size_of(self, number):
        """Return the size of a patch."""
        return self.patch(number).size

    def required(self, number):
        """Return the ascending tuple of all patches that the patch requires."""
        return numbers_of(self.patch(number).needs)

    def conflicting(self, number):
        """Return the ascending tuple of all patches that conflict with the patch."""
        return numbers_of(self.patch(number).foes)

    def relation(self, first, second):
        """Return how the first patch is related to the second one."""
        patch = self.patch(first)
        self.patch(second)
        if first == second:
            return "same"
        if has(patch.needs, second):
            return "requires"
        if has(patch.users, second):
            return "required"
        if has(patch.foes, second):
            return "conflict"
        return "independent"

    def patch(self, number):
        """Return what the book keeps of a patch, for the other files of the package, which only read it."""
        if not 1 <= number <= len(self._patches):
            raise UnknownPatch(number)
        return self._patches[number - 1]

    def first_patches(self, many):
        """Return a new book as this one was when it had so many patches."""
        kept = full_mask(many)
        book = Book(self._base)
        book._patches = [patch.among(kept) for patch in self._patches[:many]]
        book._numbers = self._numbers[:many]
        book._writers = [mask & kept for mask in self._writers]
        return book

    def later_relatives(self, number):
        """Return the ascending tuple of the later patches that are related to the patch."""
        patch = self.patch(number)
        related = patch.foes | patch.users
        return numbers_of(related >> number << number)

    def writer_mask(self, cell):
        """Return the mask of all patches that write a cell."""
        if not 0 <= cell < self.cells:
            raise BadCell(cell)
        return self._writers[cell]

    def find_set(self, numbers):
        """Return the mask of a strictly ascending tuple of patches, or None for another tuple."""
        mask = 0
        last = 0
        for number in numbers:
            if number <= last or number > len(self._patches):
                return None
            mask = mask | bit_of(number)
            last = number
        return mask

    def find_mask(self, version):
        """Return the mask of a version, or None for a tuple that is not a version."""
        mask = self.find_set(version)
        if mask is None:
            return None
        for number in version:
            patch = self._patches[number - 1]
            if patch.needs & ~mask or patch.foes & mask:
                return None
        return mask

    def version_mask(self, version):
        """Return the mask of a version."""
        mask = self.find_mask(version)
        if mask is None:
            raise NotAVersion(version)
        return mask

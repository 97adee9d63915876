"""Programs of a small language whose values are versions of one book."""

from livecopy.errors import BadCell, BadProcedure, BadStatement

# What stands behind the first word of a statement; all that follows is its bodies.
FORMS = {
    "put": ("name", "name", "writes"),
    "loose": ("name", "name", "writes"),
    "join": ("name", "name", "name"),
    "meet": ("name", "name", "name"),
    "without": ("name", "name", "name"),
    "read": ("name", "name", "number"),
    "sum": ("name", "operand", "operand"),
    "print": ("operand",),
    "less": ("operand", "operand"),
    "repeat": ("number",),
    "within": ("name", "name"),
    "call": ("name",),
    "either": (),
    "fail": (),
}


class Program:
    """A base row, procedures, and the bodies of the tasks."""

    def __init__(self, base, procedures, tasks):
        if len(base) == 0:
            raise BadCell(0)
        self.base = list(base)
        self.procedures = [(name, _copied(body)) for name, body in procedures]
        self.tasks = [_copied(body) for body in tasks]
        self._check_procedures()
        self._check_statements()

    def _check_procedures(self):
        seen = set()
        for name, _ in self.procedures:
            if name in seen:
                raise BadProcedure(name)
            seen.add(name)

    def _check_statements(self):
        number = 0
        known = []
        for name, body in self.procedures:
            number = self._checked(body, known, number)
            known.append(name)
        for body in self.tasks:
            number = self._checked(body, known, number)

    def _checked(self, body, known, number):
        """Check the statements of a body, which may call the known procedures; return the number behind them."""
        for statement in _all_statements(body):
            if not _is_possible(statement, len(self.base), known):
                raise BadStatement(number)
            number += 1
        return number


def bodies_of(statement):
    """Return the bodies of a statement, in order."""
    return statement[1 + len(FORMS[statement[0]]):]


def _copied(body):
    """Return a copy of a body through and through."""
    return [_copied_statement(statement) for statement in body]


def _copied_statement(statement):
    bodies = [_copied(inner) for inner in bodies_of(statement)]
    words = list(statement[:len(statement) - len(bodies)])
    if statement[0] in ("put", "loose"):
        words[-1] = [tuple(write) for write in words[-1]]
    return (*words, *bodies)


def _all_statements(body):
    """Return the statements of a body, each one ahead of those in its own bodies."""
    found = []
    for statement in body:
        found.append(statement)
        for inner in bodies_of(statement):
            found.extend(_all_statements(inner))
    return found


def _is_possible(statement, cells, known):
    """Return True if point 64 has nothing against the statement."""
    kind = statement[0]
    if kind in ("put", "loose"):
        return _are_writes(statement[3], cells)
    if kind == "read":
        return 0 <= statement[3] < cells
    if kind == "repeat":
        return 0 <= statement[1] <= 9
    if kind == "call":
        return statement[1] in known
    return True


def _are_writes(writes, cells):
    """Return True for one to four pairs with different cells of the row."""
    if not 1 <= len(writes) <= 4 or any([len(write) != 2 for write in writes]):
        return False
    named = [cell for cell, _ in writes]
    return min(named) >= 0 and max(named) < cells and len(set(named)) == len(named)

"""One task of a program, which is executed step by step."""

from livecopy.changes import loose_version, put_version
from livecopy.errors import Conflict, UnknownName
from livecopy.versions import join, meet, without

MOST_STEPS = 300


class Machine:
    """The state of one task.

    The place where the task stands is a list of bodies that are open, the innermost one last: tuples
    (body, index of the next statement, name, former binding). The name is that of a `within`, and None
    for other bodies. A body that is repeated is open several times at once.
    """

    def __init__(self, program, number, book):
        self.status = "running"
        self.printed = []
        self._book = book
        self._procedures = {name: body for name, body in program.procedures}
        self._names = {"base": ()}
        self._values = {}
        self._bodies = [(program.tasks[number], 0, None, None)]
        self._choices = []
        self._steps = 0
        self._settle()

    def next_read(self):
        """Return the pair (version, cell) if the next step reads a version, otherwise None."""
        if self.status != "running":
            return None
        statement = self._next()
        if statement[0] != "read" or statement[2] not in self._names:
            return None
        return self._names[statement[2]], statement[3]

    def step(self, value=0):
        """Execute the next step; a `read` sets its register to the value."""
        if self.status != "running":
            return
        self._steps += 1
        statement = self._next()
        body, place, name, former = self._bodies[-1]
        self._bodies[-1] = (body, place + 1, name, former)
        try:
            self._execute(statement, value)
        except (UnknownName, Conflict):
            self._go_back()
        self._settle()

    def _next(self):
        """Return the statement of the next step."""
        body, place, _, _ = self._bodies[-1]
        return body[place]

    def _execute(self, statement, value):
        match statement:
            case ("put", name, source, writes):
                self._names[name] = put_version(self._book, self._version(source), self._written(writes))
            case ("loose", name, source, writes):
                self._names[name] = loose_version(self._book, self._version(source), self._written(writes))
            case ("join", name, first, second):
                self._names[name] = join(self._book, self._version(first), self._version(second))
            case ("meet", name, first, second):
                self._names[name] = meet(self._book, self._version(first), self._version(second))
            case ("without", name, first, second):
                self._names[name] = without(self._book, self._version(first), self._version(second))
            case ("read", target, source, _):
                self._version(source)
                self._values[target] = value
            case ("sum", target, left, right):
                self._values[target] = self._value(left) + self._value(right)
            case ("print", operand):
                self.printed.append(self._value(operand))
            case _:
                self._enter_bodies(statement)

    def _enter_bodies(self, statement):
        """Execute a statement that only leads to another place."""
        match statement:
            case ("less", left, right, body, other):
                self._enter(body if self._value(left) < self._value(right) else other)
            case ("repeat", count, body):
                for _ in range(count):
                    self._enter(body)
            case ("within", name, source, body):
                version = self._version(source)
                self._bodies.append((body, 0, name, self._names.get(name)))
                self._names[name] = version
            case ("call", procedure):
                self._enter(self._procedures[procedure])
            case ("either", body, other):
                self._choices.append(
                    (dict(self._names), dict(self._values), list(self.printed), list(self._bodies), other))
                self._enter(body)
            case ("fail",):
                self._go_back()

    def _enter(self, body):
        self._bodies.append((body, 0, None, None))

    def _go_back(self):
        """Continue with the second body of the latest `either` where it was not tried yet, or end."""
        if len(self._choices) == 0:
            self.status = "failed"
            self.printed = []
            return
        names, registers, printed, places, other = self._choices.pop()
        self._names = names
        self._values = registers
        self.printed = printed
        self._bodies = places
        self._enter(other)

    def _settle(self):
        """Leave the bodies that have no statement left, and set the status."""
        if self.status == "failed":
            return
        while self._bodies and self._bodies[-1][1] == len(self._bodies[-1][0]):
            _, _, name, former = self._bodies.pop()
            if former is not None:
                self._names[name] = former
            elif name is not None:
                del self._names[name]
        if len(self._bodies) == 0:
            self.status = "done"
        elif self._steps == MOST_STEPS:
            self.status = "stopped"

    def _version(self, name):
        if name not in self._names:
            raise UnknownName(name)
        return self._names[name]

    def _value(self, operand):
        if isinstance(operand, int):
            return operand
        return self._values.get(operand, 0)

    def _written(self, writes):
        """Return the pairs (cell, value) of pairs (cell, operand)."""
        return [(cell, self._value(operand)) for cell, operand in writes]

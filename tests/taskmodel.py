"""A model of the tasks of a program, by the words of points 63 to 67, and random programs.

A task of the model is a generator that yields ahead of each step. What comes behind a statement is a
function that goes on, so that an `either` can try its second body whenever something fails behind it.
"""

import sys

from livecopy.book import Book
from livecopy.errors import Conflict
from livecopy.plain import value_at, writers
from livecopy.versions import join, meet, without

# Each step of the model goes some calls deeper.
sys.setrecursionlimit(20000)

NAMES = ("a", "b", "c", "base")
REGISTERS = ("x", "y", "a")


class Failure(Exception):
    pass


class Stop(Exception):
    pass


class ModelTask:
    """One task: its outcome, and what it did to a world of a book and requests."""

    def __init__(self, program, number, world):
        self.world = world
        self.bodies = dict(program.procedures)
        self.steps = 0
        self.outcome = None
        self.running = self.run(program.tasks[number])
        self.advance()

    def advance(self):
        """Execute one step, or do nothing if the task has ended."""
        next(self.running, None)

    def run(self, body):
        start = ({"base": ()}, {}, ())
        try:
            printed = yield from self.go(body, 0, start, self.end)
            self.outcome = ("done", list(printed))
        except Failure:
            self.outcome = ("failed", [])
        except Stop as stop:
            self.outcome = ("stopped", list(stop.args[0]))

    def end(self, state):
        return state[2]
        yield

    def go(self, body, place, state, behind):
        """Execute a body from a place on, and then what comes behind it."""
        if place == len(body):
            return (yield from behind(state))
        if self.steps == 300:
            raise Stop(state[2])
        yield
        self.steps += 1
        rest = lambda later: self.go(body, place + 1, later, behind)
        return (yield from self.execute(body[place], state, rest))

    def execute(self, statement, state, rest):
        kind, *parts = statement
        names, registers, printed = state
        book = self.world.book

        def version(name):
            if name not in names:
                raise Failure()
            return names[name]

        def value(operand):
            return operand if isinstance(operand, int) else registers.get(operand, 0)

        def bound(name, found):
            return ({**names, name: found}, registers, printed)

        def counted(register, number):
            return (names, {**registers, register: number}, printed)

        if kind in ("put", "loose"):
            source = version(parts[1])
            needs = source
            if kind == "loose":
                needs = tuple(number for cell, _ in parts[2] for number in writers(book, source, cell)[-1:])
            number = book.make_patch([(cell, value(part)) for cell, part in parts[2]], requires=needs)
            return (yield from rest(bound(parts[0], source + (number,))))
        if kind in ("join", "meet", "without"):
            first, second = version(parts[1]), version(parts[2])
            try:
                found = {"join": join, "meet": meet, "without": without}[kind](book, first, second)
            except Conflict:
                raise Failure()
            return (yield from rest(bound(parts[0], found)))
        if kind == "read":
            source = version(parts[1])
            self.world.requests.append((source, 1))
            return (yield from rest(counted(parts[0], value_at(book, source, parts[2]))))
        if kind == "sum":
            return (yield from rest(counted(parts[0], value(parts[1]) + value(parts[2]))))
        if kind == "print":
            return (yield from rest((names, registers, printed + (value(parts[0]),))))
        if kind == "less":
            return (yield from self.go(parts[2] if value(parts[0]) < value(parts[1]) else parts[3], 0, state, rest))
        if kind == "repeat":
            return (yield from self.go(parts[1] * parts[0], 0, state, rest))
        if kind == "call":
            return (yield from self.go(self.bodies[parts[0]], 0, state, rest))
        if kind == "within":
            return (yield from self.go(
                parts[2], 0, bound(parts[0], version(parts[1])), self.leaving(parts[0], names.get(parts[0]), rest)))
        if kind == "either":
            try:
                return (yield from self.go(parts[0], 0, state, rest))
            except Failure:
                pass
            return (yield from self.go(parts[1], 0, state, rest))
        raise Failure()

    def leaving(self, name, former, rest):
        """What is done behind the body of a `within`."""
        def leave(state):
            names = {other: found for other, found in state[0].items() if other != name}
            if former is not None:
                names[name] = former
            return (yield from rest((names, state[1], state[2])))
        return leave


class ModelWorld:
    """A book and requests that tasks share."""

    def __init__(self, program, turns=()):
        self.book = Book(program.base)
        self.requests = []
        tasks = [ModelTask(program, number, self) for number in range(len(program.tasks))]
        for number in turns:
            tasks[number].advance()
        for task in tasks:
            while task.outcome is None:
                task.advance()
        self.outcomes = [task.outcome for task in tasks]


def random_parts(source, cells=3):
    """Return base, procedures and tasks of a random program."""
    made = []
    for number in range(source.randrange(3)):
        made.append((f"p{number}", random_body(source, cells, [name for name, _ in made], 2)))
    known = [name for name, _ in made]
    start = [("put", name, "base", [(source.randrange(cells), 7)]) for name in "abc" if source.random() < 0.8]
    tasks = [start + random_body(source, cells, known, 4) for _ in range(source.randrange(1, 4))]
    return [source.randrange(-5, 6) for _ in range(cells)], made, tasks


def random_body(source, cells, known, depth):
    return [random_statement(source, cells, known, depth) for _ in range(source.choice((0, 1, 2, 3, 5, 8)))]


def random_statement(source, cells, known, depth):
    name, first, second = (source.choice(NAMES) for _ in range(3))
    operand = lambda: source.choice((source.randrange(-9, 10), source.choice(REGISTERS)))
    body = lambda: random_body(source, cells, known, depth - 1)
    kinds = ["put"] * 3 + ["loose"] * 3 + ["read"] * 4 + ["print"] * 4 + ["join", "meet", "without", "sum"]
    kinds += ["fail"] if source.random() < 0.6 else []
    if depth:
        kinds += ["less"] + ["repeat", "within"] * 2 + ["either"] * 8
    if known:
        kinds += ["call"] * 2
    kind = source.choice(kinds)
    if kind in ("put", "loose"):
        written = source.sample(range(cells), source.randrange(1, min(4, cells) + 1))
        return (kind, name, first, [(cell, operand()) for cell in written])
    if kind in ("join", "meet", "without"):
        return (kind, name, first, second)
    return {
        "read": lambda: ("read", source.choice(REGISTERS), first, source.randrange(cells)),
        "sum": lambda: ("sum", source.choice(REGISTERS), operand(), operand()),
        "print": lambda: ("print", operand()),
        "less": lambda: ("less", operand(), operand(), body(), body()),
        "repeat": lambda: ("repeat", source.choice((0, 1, 2, 3, 9)), body()),
        "within": lambda: ("within", name, first, body()),
        "call": lambda: ("call", source.choice(known)),
        "either": lambda: ("either", body(), body()),
        "fail": lambda: ("fail",),
    }[kind]()

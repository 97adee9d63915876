"""Runs of programs, without a live copy or with one."""

from livecopy.book import Book
from livecopy.errors import BadTurn
from livecopy.live import LiveCopy
from livecopy.machine import Machine
from livecopy.plain import value_at
from livecopy.requests import check_look, check_toggle, size_in


class Run:
    """What came out of executing a program."""

    def __init__(self, base):
        self.outcomes = []
        self.requests = []
        self.book = Book(base)
        self.homes = []
        self.cost = 0


class PlainReader:
    """Reads values by the patches of the book."""

    def __init__(self, run):
        self._run = run

    def answer(self, version, cell):
        """Serve one request and return the value."""
        return value_at(self._run.book, version, cell)


class LiveReader:
    """Reads values by a live copy that a mover moves, and keeps account of it in a run."""

    def __init__(self, run, mover, look, toggle):
        self._run = run
        self._mover = mover
        self._copy = LiveCopy(run.book)
        self._look_price = look
        self._toggle_price = toggle

    def answer(self, version, cell):
        """Serve one request and return the value."""
        run = self._run
        index = len(run.homes)
        self._pay_toggles(self._mover.before(self._copy, version, index))
        value = self._copy.read(version, cell)
        home = self._copy.home
        run.homes.append(home)
        apart = run.book.version_mask(version) ^ run.book.version_mask(home)
        run.cost += self._look_price * size_in(run.book, apart)
        self._pay_toggles(self._mover.after(self._copy, version, index))
        return value

    def _pay_toggles(self, toggled):
        # A patch may be toggled several times, so the list is not a set.
        sizes = [self._run.book.size_of(number) for number in toggled]
        self._run.cost += self._toggle_price * sum(sizes)


def run_plain(program, turns=()):
    """Execute a program without a live copy."""
    _check_turns(program, turns)
    run = Run(program.base)
    _execute(program, turns, run, PlainReader(run))
    return run


def run_live(program, mover, turns=(), *, look=1, toggle=1):
    """Execute a program with a live copy that is moved by a mover."""
    _check_turns(program, turns)
    check_look(look)
    check_toggle(toggle)
    run = Run(program.base)
    _execute(program, turns, run, LiveReader(run, mover, look, toggle))
    return run


def _check_turns(program, turns):
    for index, number in enumerate(turns):
        if not 0 <= number < len(program.tasks):
            raise BadTurn(index)


def _execute(program, turns, run, reader):
    """Execute the tasks by turns and then to their ends."""
    machines = [Machine(program, number, run.book) for number in range(len(program.tasks))]
    for number in turns:
        _step(machines[number], run, reader)
    for machine in machines:
        while machine.status == "running":
            _step(machine, run, reader)
    run.outcomes = [(machine.status, list(machine.printed)) for machine in machines]


def _step(machine, run, reader):
    """Execute one step of a machine, and serve the request that it may be."""
    asked = machine.next_read()
    if asked is None:
        machine.step()
        return
    version, cell = asked
    run.requests.append((version, 1))
    machine.step(reader.answer(version, cell))

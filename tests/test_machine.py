"""Points 65 to 67: one task, executed step by step."""

import random
import unittest

from livecopy.book import Book
from livecopy.machine import Machine
from livecopy.programs import Program
from tests.support import chain_book, snapshot
from tests.taskmodel import ModelWorld, random_parts

FAIL = ("fail",)
NOTHING = ("sum", "nothing", 0, 0)
BASE = [10, 20, 30]


def machine_of(*statements, procedures=(), base=BASE):
    """Return a machine for a task of these statements, and its book."""
    book = Book(base)
    return Machine(Program(base, list(procedures), [list(statements)]), 0, book), book


def finished(machine, value=0):
    """Execute a machine to its end, and return how many steps that took."""
    steps = 0
    while machine.status == "running":
        machine.step(value)
        steps += 1
    return steps


class MachineCase(unittest.TestCase):

    def check(self, status, printed, *statements, procedures=(), steps=None):
        """Check the outcome of a task."""
        machine, book = machine_of(*statements, procedures=procedures)
        taken = finished(machine)
        self.assertEqual((machine.status, machine.printed), (status, printed))
        if steps is not None:
            self.assertEqual(taken, steps)
        return book


class StatementTest(MachineCase):

    def test_a_new_machine(self):
        machine, book = machine_of(("print", 1))
        self.assertEqual((machine.status, machine.printed, machine.next_read()), ("running", [], None))
        self.assertIsNone(machine.step())
        self.assertEqual((machine.status, machine.printed, machine.next_read()), ("done", [1], None))

    def test_an_empty_body_is_done_at_once(self):
        machine, book = machine_of()
        self.assertEqual((machine.status, machine.printed, machine.next_read()), ("done", [], None))
        machine.step(5)
        self.assertEqual((machine.status, machine.printed), ("done", []))

    def test_put(self):
        machine, book = machine_of(
            ("put", "a", "base", [(2, 5), (0, "x")]), ("sum", "x", 40, 2), ("put", "b", "a", [(1, "x")]),
            ("put", "a", "base", [(0, 1)]), ("read", "y", "b", 1), ("read", "y", "a", 0))
        for _ in range(4):
            machine.step()
        self.assertEqual([book.writes_of(n) for n in book], [[(0, 0), (2, 5)], [(1, 42)], [(0, 1)]])
        self.assertEqual([book.required(n) for n in book], [(), (1,), ()])
        self.assertEqual([book.size_of(n) for n in book], [2, 1, 1])
        self.assertEqual(machine.next_read(), ((1, 2), 1))
        machine.step()
        self.assertEqual(machine.next_read(), ((3,), 0))

    def test_loose(self):
        machine, book = machine_of(
            ("put", "a", "base", [(0, 1)]), ("put", "a", "a", [(1, 2)]), ("loose", "b", "a", [(0, 3)]),
            ("loose", "c", "b", [(2, 4), (0, 5)]), ("loose", "d", "a", [(2, 6)]), ("read", "x", "c", 0),
            ("join", "e", "c", "d"), ("join", "e", "b", "d"), ("read", "x", "e", 0))
        for _ in range(5):
            machine.step()
        self.assertEqual([book.required(n) for n in book], [(), (1,), (1,), (1, 3), ()])
        self.assertEqual(machine.next_read(), ((1, 2, 3, 4), 0))
        self.assertEqual([book.size_of(n) for n in book], [1, 1, 1, 2, 1])
        machine.step()
        machine.step()
        self.assertEqual((machine.status, book.conflicting(5)), ("failed", (4,)))

    def test_loose_requires_what_the_last_writer_requires(self):
        book = self.check(
            "done", [], ("put", "a", "base", [(1, 1)]), ("put", "a", "a", [(0, 2)]), ("put", "a", "a", [(2, 3)]),
            ("loose", "b", "a", [(0, 4)]))
        self.assertEqual(book.required(4), (1, 2))

    def test_join_meet_and_without(self):
        machine, book = machine_of(
            ("put", "a", "base", [(0, 1)]), ("put", "b", "a", [(1, 2)]), ("put", "c", "base", [(2, 3)]),
            ("join", "d", "b", "c"), ("without", "e", "d", "a"), ("meet", "f", "d", "a"),
            *[("read", "x", name, 0) for name in ("d", "e", "f")])
        for _ in range(6):
            machine.step()
        reads = []
        while machine.status == "running":
            reads.append(machine.next_read())
            machine.step()
        self.assertEqual(reads, [((1, 2, 3), 0), ((3,), 0), ((1,), 0)])

    def test_a_join_of_versions_that_conflict_fails(self):
        puts = [("put", "a", "base", [(0, 1)]), ("put", "b", "base", [(0, 2)])]
        self.check("failed", [], *puts, ("print", 1), ("join", "c", "a", "b"), ("print", 2), steps=4)
        self.check("done", [1, 3], *puts, ("print", 1), ("either", [("join", "c", "a", "b"), ("print", 2)],
                   [("print", 3)]))

    def test_read(self):
        machine, book = machine_of(
            ("read", "x", "base", 2), ("print", "x"), ("read", "x", "base", 0), ("print", "x"))
        self.assertEqual(machine.next_read(), ((), 2))
        machine.step(7)
        self.assertIsNone(machine.next_read())
        machine.step(8)
        self.assertEqual((machine.next_read(), machine.printed), (((), 0), [7]))
        machine.step()
        machine.step(9)
        self.assertEqual((machine.printed, machine.status), ([7, 0], "done"))

    def test_a_value_has_no_effect_at_other_steps(self):
        machine, book = machine_of(
            ("sum", "x", "x", 1), ("put", "a", "base", [(0, "x")]), ("less", 0, "x", [("print", "x")], []))
        finished(machine, 99)
        self.assertEqual((machine.printed, book.writes_of(1)), ([1], [(0, 1)]))

    def test_next_read_of_an_unbound_name(self):
        machine, book = machine_of(("either", [("read", "x", "a", 0)], [("print", "x")]))
        machine.step()
        self.assertIsNone(machine.next_read())
        machine.step(5)
        self.assertEqual((machine.printed, machine.status), ([], "running"))
        machine.step(6)
        self.assertEqual((machine.printed, machine.status), ([0], "done"))

    def test_registers_and_operands(self):
        self.check("done", [0, 0, -3, 5 - 3, 10 ** 80], ("print", "x"), ("print", 0), ("sum", "x", -3, "y"),
                   ("print", "x"), ("sum", "y", 5, "x"), ("print", "y"), ("print", 10 ** 80))

    def test_names_and_registers_are_different_things(self):
        machine, book = machine_of(
            ("put", "a", "base", [(0, 1)]), ("read", "a", "a", 0), ("read", "base", "a", 0), ("print", "a"),
            ("read", "x", "base", 0))
        machine.step()
        machine.step(5)
        self.assertEqual(machine.next_read(), ((1,), 0))
        machine.step(6)
        machine.step()
        self.assertEqual((machine.printed, machine.next_read()), ([5], ((), 0)))

    def test_base_may_be_bound_again(self):
        machine, book = machine_of(("put", "base", "base", [(0, 1)]), ("read", "x", "base", 0))
        machine.step()
        self.assertEqual(machine.next_read(), ((1,), 0))

    def test_unbound_names_fail(self):
        statements = (
            ("put", "b", "a", [(0, 1)]), ("loose", "b", "a", [(0, 1)]), ("join", "b", "base", "a"),
            ("join", "b", "a", "base"), ("meet", "b", "base", "a"), ("meet", "b", "a", "base"),
            ("without", "b", "base", "a"), ("without", "b", "a", "base"), ("read", "x", "a", 0),
            ("within", "b", "a", [("print", 5)]), ("put", "a", "a", [(0, 1)]), ("within", "a", "a", []))
        for statement in statements:
            book = self.check("failed", [], ("print", 1), statement, ("print", 2), steps=2)
            self.assertEqual(len(book), 0)
            # What was to be bound is not bound.
            book = self.check("failed", [], ("either", [statement], []), ("read", "x", "b", 0), steps=3)

    def test_less(self):
        for left, right, printed in ((1, 2, 1), (2, 2, 2), (3, 2, 2), ("x", 1, 1), (0, "x", 2), (-10 ** 70, "x", 1)):
            self.check("done", [printed, 3], ("less", left, right, [("print", 1)], [("print", 2)]), ("print", 3))
        self.check("done", [], ("less", 1, 2, [], [("print", 1)]), steps=1)

    def test_repeat(self):
        self.check("done", [1, 2, 3], ("repeat", 3, [("sum", "x", "x", 1), ("print", "x")]), steps=7)
        self.check("done", [9], ("repeat", 0, [("print", 1)]), ("print", 9), steps=2)
        self.check("done", [9], ("repeat", 9, []), ("print", 9), steps=2)
        self.check("done", [1] * 6, ("repeat", 2, [("repeat", 3, [("print", 1)])]), steps=9)

    def test_within(self):
        machine, book = machine_of(
            ("put", "a", "base", [(0, 1)]), ("put", "b", "base", [(0, 2)]),
            ("within", "a", "b", [("read", "x", "a", 0), ("put", "a", "a", [(0, 3)]), ("read", "x", "a", 0)]),
            ("read", "x", "a", 0),
            ("within", "c", "a", [("read", "x", "c", 0), ("within", "c", "base", [("read", "x", "c", 0)]),
                                  ("read", "x", "c", 0)]),
            ("read", "x", "c", 0))
        reads = []
        while machine.status == "running":
            if machine.next_read() is not None:
                reads.append(machine.next_read()[0])
            machine.step()
        # Behind its `within` the name c is not bound again.
        self.assertEqual((reads, machine.status), ([(2,), (2, 3), (1,), (1,), (), (1,)], "failed"))

    def test_within_an_empty_body(self):
        self.check("failed", [], ("within", "a", "base", []), ("read", "x", "a", 0), steps=2)

    def test_within_of_the_name_itself(self):
        machine, book = machine_of(
            ("put", "a", "base", [(0, 1)]), ("within", "a", "a", [("put", "a", "a", [(1, 2)])]), ("read", "x", "a", 0))
        for _ in range(3):
            machine.step()
        self.assertEqual(machine.next_read(), ((1,), 0))

    def test_call(self):
        procedures = [
            ("one", [("sum", "x", "x", 1), ("put", "a", "base", [(0, "x")])]), ("two", [("call", "one"), ("call", "one")])]
        machine, book = machine_of(
            ("sum", "x", 5, 0), ("call", "two"), ("read", "y", "a", 0), ("print", "x"), procedures=procedures)
        for _ in range(8):
            machine.step()
        self.assertEqual((machine.next_read(), book.writes_of(2)), (((2,), 0), [(0, 7)]))
        machine.step()
        machine.step()
        self.assertEqual((machine.status, machine.printed), ("done", [7]))

    def test_a_procedure_sees_the_bindings_of_the_moment(self):
        self.check("done", [1], ("within", "a", "base", [("call", "p")]), ("print", 1),
                   procedures=[("p", [("meet", "b", "a", "a")])])
        self.check("failed", [], ("within", "a", "base", []), ("call", "p"),
                   procedures=[("p", [("meet", "b", "a", "a")])])

    def test_a_book_that_has_patches_already(self):
        book = chain_book()
        machine = Machine(Program([10, 20, 30], [], [[], [("put", "a", "base", [(0, 1)]), ("read", "x", "a", 0)]]), 1, book)
        machine.step()
        self.assertEqual((machine.next_read(), len(book), book.conflicting(5)), (((5,), 0), 5, (1, 2, 3)))

    def test_machines_on_one_book(self):
        body = [("put", "a", "base", [(0, 1)]), ("put", "a", "a", [(1, 2)]), ("read", "x", "a", 0), ("print", "x")]
        program = Program(BASE, [], [body, body])
        book = Book(BASE)
        first, second = Machine(program, 0, book), Machine(program, 1, book)
        for machine in (first, second, second, first):
            machine.step()
        self.assertEqual((first.next_read(), second.next_read()), (((1, 4), 0), ((2, 3), 0)))
        book.make_patch([(2, 7)])
        first.step(8)
        finished(first)
        self.assertEqual((first.printed, second.printed, second.next_read()), ([8], [], ((2, 3), 0)))


class EitherTest(MachineCase):

    def test_the_first_body_if_nothing_fails(self):
        self.check("done", [1, 3], ("either", [("print", 1)], [("print", 2)]), ("print", 3), steps=3)

    def test_a_failure_within_the_first_body(self):
        self.check("done", [2, 3], ("either", [("print", 1), FAIL, ("print", 4)], [("print", 2)]), ("print", 3), steps=5)

    def test_a_failure_long_behind_the_first_body(self):
        self.check("done", [0, 2, 1, 3],
                   ("print", 0), ("either", [("sum", "x", 1, 0)], [("print", 2)]), ("print", 1),
                   ("less", 0, "x", [NOTHING, FAIL], []), ("print", 3))

    def test_without_a_choice_left(self):
        self.check("failed", [], ("print", 1), ("either", [], []), FAIL)
        self.check("failed", [], ("print", 1), FAIL)

    def test_a_second_body_that_fails(self):
        self.check("failed", [], ("print", 1), ("either", [FAIL], [FAIL]), steps=4)
        self.check("done", [4], ("either", [("print", 1), ("either", [FAIL], [("print", 2), FAIL])], [("print", 4)]),
                   steps=7)

    def test_the_latest_one_first(self):
        first, second = ("either", [("print", 1)], [("print", 2)]), ("either", [("print", 3)], [("print", 4)])
        # The book keeps what was printed along each way, as patches are not taken back.
        book = self.check("failed", [], ("either", [("sum", "x", 10, 0)], [("sum", "x", 20, 0)]),
                          ("either", [("sum", "y", 1, "x")], [("sum", "y", 2, "x")]),
                          ("put", "a", "base", [(0, "y")]), FAIL)
        self.assertEqual([book.writes_of(n)[0][1] for n in book], [11, 12, 21, 22])
        self.check("done", [1, 3], first, second)

    def test_bindings_registers_and_printed_numbers_go_back(self):
        machine, book = machine_of(
            ("put", "a", "base", [(0, 1)]), ("sum", "x", 5, 0), ("print", 1),
            ("either", [("put", "a", "a", [(0, 2)]), ("put", "b", "a", [(1, 3)]), ("sum", "x", 6, 0), ("sum", "y", 1, 0),
                        ("print", 2), FAIL], []),
            ("print", "x"), ("print", "y"), ("read", "z", "a", 0), ("read", "z", "b", 0))
        while machine.next_read() is None:
            machine.step()
        self.assertEqual((machine.printed, machine.next_read(), len(book)), ([1, 5, 0], ((1,), 0), 3))
        machine.step()
        machine.step()
        self.assertEqual((machine.status, machine.printed), ("failed", []))

    def test_a_printed_list_that_was_seen_stays(self):
        machine, book = machine_of(("print", 1), ("either", [("print", 2), FAIL], [("print", 3)]))
        for _ in range(3):
            machine.step()
        seen = list(machine.printed)
        finished(machine)
        self.assertEqual((seen, machine.printed), ([1, 2], [1, 3]))

    def test_going_back_into_a_repetition(self):
        # In each round the number grows by one or by ten; the first sum above 10 that does not fail is 12.
        body = [("either", [("sum", "x", "x", 1)], [("sum", "x", "x", 10)]), ("print", "x")]
        self.check("done", [1, 2, 12, 12], ("repeat", 3, body), ("less", "x", 10, [FAIL], []), ("print", "x"))

    def test_each_round_is_a_new_one(self):
        book = self.check("failed", [], ("repeat", 2, [("either", [("sum", "x", "x", 1)], [("sum", "x", "x", 10)])]),
                          ("put", "a", "base", [(0, "x")]), FAIL)
        self.assertEqual([book.writes_of(n)[0][1] for n in book], [2, 11, 11, 20])

    def test_going_back_into_a_call(self):
        procedures = [("p", [("either", [("sum", "x", 1, 0)], [("sum", "x", 2, 0)]), ("print", "x")])]
        self.check("done", [1, 2, 7], ("call", "p"), ("call", "p"), ("less", "x", 2, [FAIL], []), ("print", 7),
                   procedures=procedures)

    def test_going_back_into_a_within(self):
        machine, book = machine_of(
            ("put", "a", "base", [(0, 1)]),
            ("within", "a", "base", [("put", "a", "a", [(0, 2)]), ("either", [], [("read", "x", "a", 0)])]),
            ("read", "y", "a", 0), ("less", "x", 1, [FAIL], []), ("print", 4), ("read", "y", "a", 0))
        reads = []
        while machine.status == "running":
            if machine.next_read() is not None:
                reads.append(machine.next_read()[0])
            machine.step(len(reads))
        # Within it, the name is again what it was there, and behind it what it was ahead of it.
        self.assertEqual((reads, machine.status, machine.printed), ([(1,), (2,), (1,), (1,)], "done", [4]))

    def test_an_either_that_is_reached_again_behind_a_going_back(self):
        book = self.check("failed", [], ("either", [("sum", "x", 10, 0)], [("sum", "x", 20, 0)]),
                          ("either", [], [("sum", "x", "x", 1)]), ("either", [], [("sum", "x", "x", 2)]),
                          ("put", "a", "base", [(0, "x")]), FAIL)
        self.assertEqual([book.writes_of(n)[0][1] for n in book], [10, 12, 11, 13, 20, 22, 21, 23])

    def test_the_going_back_belongs_to_the_step_that_failed(self):
        machine, book = machine_of(("print", 1), ("either", [("print", 2), FAIL], [("print", 3)]), ("read", "x", "base", 0))
        for _ in range(3):
            machine.step()
        self.assertEqual(machine.printed, [1, 2])
        machine.step()
        self.assertEqual((machine.printed, machine.status, machine.next_read()), ([1], "running", None))
        machine.step()
        self.assertEqual((machine.printed, machine.next_read()), ([1, 3], ((), 0)))

    def test_an_empty_second_body(self):
        machine, book = machine_of(("within", "a", "base", [("either", [FAIL], [])]), ("read", "x", "a", 0))
        for _ in range(3):
            machine.step()
        self.assertIsNone(machine.next_read())
        machine, book = machine_of(("print", 1), ("either", [FAIL], []))
        self.assertEqual((finished(machine), machine.status, machine.printed), (3, "done", [1]))


class StepTest(MachineCase):

    def test_statuses_are_set_at_the_end_of_the_step(self):
        machine, book = machine_of(("repeat", 1, [("within", "a", "base", [("less", 0, 1, [("print", 1)], [])])]))
        for _ in range(3):
            machine.step()
            self.assertEqual(machine.status, "running")
        machine.step()
        self.assertEqual(machine.status, "done")

    def test_every_statement_that_is_begun_is_a_step(self):
        self.check("done", [1], ("less", 0, 1, [("print", 1)], []), steps=2)
        self.check("done", [1], ("repeat", 1, [("print", 1)]), steps=2)
        self.check("done", [1], ("within", "a", "base", [("print", 1)]), steps=2)
        self.check("done", [1], ("call", "p"), procedures=[("p", [("print", 1)])], steps=2)
        self.check("done", [1], ("either", [("print", 1)], []), steps=2)
        self.check("done", [1], ("either", [FAIL], [("print", 1)]), steps=3)

    def test_300_steps(self):
        self.check("done", [1], *[NOTHING] * 299, ("print", 1), steps=300)
        self.check("stopped", [1], *[NOTHING] * 299, ("print", 1), ("print", 2), steps=300)
        self.check("stopped", [], *[NOTHING] * 301, steps=300)
        self.check("done", [], *[NOTHING] * 298, ("repeat", 1, [("within", "a", "base", [])]), steps=300)
        self.check("stopped", [], *[NOTHING] * 299, ("less", 0, 1, [NOTHING], []), steps=300)
        self.check("done", [], *[NOTHING] * 299, ("less", 0, 1, [], []), steps=300)

    def test_repetitions_that_are_stopped(self):
        self.check("stopped", list(range(1, 10)) * 3, ("repeat", 3, [
            ("sum", "x", 0, 0), ("repeat", 9, [("sum", "x", "x", 1), ("print", "x")])]), *[NOTHING] * 300, steps=300)
        # 1 step, three middle rounds of 1 + 9 * 10 steps, and 1 + 10 + 10 + 5 steps of the fourth one.
        inner = ("repeat", 9, [("print", 1)])
        self.check("stopped", [1] * (3 * 81 + 9 + 9 + 4), ("repeat", 9, [("repeat", 9, [inner])]), steps=300)

    def test_the_300th_step_fails(self):
        self.check("failed", [], ("print", 1), *[NOTHING] * 298, FAIL, steps=300)
        self.check("failed", [], ("print", 1), *[NOTHING] * 298, FAIL, NOTHING, steps=300)
        tail = [("print", 2), *[NOTHING] * 296]
        self.check("stopped", [1], ("print", 1), ("either", [*tail, FAIL], [NOTHING]), steps=300)
        self.check("stopped", [1], ("print", 1), ("either", [*tail, FAIL], []), NOTHING, steps=300)
        self.check("done", [1], ("print", 1), ("either", [*tail, FAIL], []), steps=300)
        self.check("stopped", [1], ("print", 1), ("either", tail, []), FAIL, steps=300)

    def test_steps_are_not_given_back(self):
        # 1 + 149 + 1 steps, then the second body has 149 steps left.
        first, second = [NOTHING] * 149 + [FAIL], [NOTHING] * 149
        self.check("done", [], ("either", first, second), steps=300)
        self.check("stopped", [], ("either", first, second), NOTHING, steps=300)

    def test_a_machine_that_has_ended_does_nothing(self):
        for statements in ([], [FAIL], [NOTHING] * 300 + [("read", "x", "base", 0)]):
            machine, book = machine_of(*statements)
            finished(machine)
            before = (machine.status, list(machine.printed), snapshot(book))
            self.assertNotEqual(machine.status, "running")
            self.assertIsNone(machine.next_read())
            self.assertIsNone(machine.step(4))
            self.assertEqual((machine.status, machine.printed, snapshot(book)), before)

    def test_a_read_that_would_be_the_301st_step(self):
        machine, book = machine_of(*[NOTHING] * 300, ("read", "x", "base", 0))
        for _ in range(300):
            self.assertIsNone(machine.next_read())
            machine.step()
        self.assertEqual((machine.status, machine.next_read()), ("stopped", None))

    def test_by_words(self):
        statuses = set()
        for seed in range(400):
            source = random.Random(seed)
            base, procedures, tasks = random_parts(source)
            program = Program(base, procedures, tasks[:1])
            world = ModelWorld(program)
            book = Book(base)
            machine = Machine(program, 0, book)
            requests = []
            while machine.status == "running":
                asked = machine.next_read()
                if asked is not None:
                    requests.append((asked[0], 1))
                    self.assertIn(asked[0], book)
                machine.step(0 if asked is None else value_in(book, *asked))
            self.assertEqual([(machine.status, machine.printed)], world.outcomes)
            self.assertEqual((requests, snapshot(book)), (world.requests, snapshot(world.book)))
            statuses.add(machine.status)
        self.assertEqual(statuses, {"done", "failed", "stopped"})


def value_in(book, version, cell):
    value = book.base_row()[cell]
    for number in version:
        value = dict(book.writes_of(number)).get(cell, value)
    return value


if __name__ == "__main__":
    unittest.main()

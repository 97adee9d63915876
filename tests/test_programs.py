"""Points 63 and 64: programs and what they refuse."""

import copy
import unittest

from livecopy.errors import BadCell, BadProcedure, BadStatement
from livecopy.programs import Program
from tests.support import refused, same_arguments

FAIL = ("fail",)

# One statement of each kind, all possible in a row of two cells ahead of which the procedure `go` stands.
EVERY_KIND = [
    ("put", "a", "base", [(0, 5), (1, "x")]),
    ("loose", "b", "a", [(1, -7)]),
    ("join", "c", "a", "b"),
    ("meet", "d", "a", "b"),
    ("without", "e", "c", "a"),
    ("read", "x", "c", 1),
    ("sum", "y", "x", 3),
    ("print", "y"),
    ("less", 1, "y", [("print", 1)], [("print", 2)]),
    ("repeat", 9, [("sum", "x", "x", "x")]),
    ("within", "a", "base", [("read", "x", "a", 0)]),
    ("call", "go"),
    ("either", [FAIL], []),
    ("fail",),
]


def put(cells):
    return ("put", "a", "base", [(cell, 1) for cell in cells])


def task(*statements):
    """A program of two cells with one task."""
    return ([0, 0], [], [list(statements)])


class ProgramTest(unittest.TestCase):

    def test_fields(self):
        base, procedures, tasks = [1, 2], [("go", [("print", 1)])], [EVERY_KIND, []]
        program = same_arguments(self, Program, base, procedures, tasks)
        self.assertEqual((program.base, program.procedures, program.tasks), (base, procedures, tasks))
        self.assertEqual([kind.__class__ for kind in program.procedures], [tuple])
        self.assertEqual({kind.__class__ for kind in program.tasks[0]}, {tuple})
        self.assertEqual([program.tasks[0][8][place].__class__ for place in (3, 4)], [list, list])
        self.assertEqual([part.__class__ for part in program.tasks[0][0][3]], [tuple, tuple])

    def test_a_program_without_anything(self):
        program = Program([5], [], [])
        self.assertEqual((program.base, program.procedures, program.tasks), ([5], [], []))

    def test_everything_is_copied(self):
        base, procedures, tasks = [1, 2], [("go", [("either", [], [put([0])])])], [copy.deepcopy(EVERY_KIND)]
        program = Program(base, procedures, tasks)
        kept = copy.deepcopy((base, procedures, tasks))
        base.append(3)
        procedures[0][1][0][2][0][3].append((1, 1))
        procedures[0][1][0][1].append(FAIL)
        procedures[0][1].clear()
        procedures.clear()
        tasks[0][0][3].clear()
        tasks[0][8][3].append(FAIL)
        tasks[0][8][4].clear()
        tasks[0][9][2].clear()
        tasks[0][10][3].clear()
        tasks[0][12][1].clear()
        tasks[0].clear()
        tasks.append([])
        self.assertEqual((program.base, program.procedures, program.tasks), kept)

    def test_order_of_the_kinds_of_errors(self):
        twice = [("a", [put([9])]), ("b", []), ("b", []), ("a", [])]
        refused(self, BadCell, (0,), Program, [], twice, [[put([9])]])
        refused(self, BadProcedure, ("b",), Program, [0], twice, [[put([9])]])
        refused(self, BadStatement, (0,), Program, [0], twice[:2], [])

    def test_writes(self):
        for kind in ("put", "loose"):
            for cells in ([], [2], [-1], [0, 0], [1, 0, 1], [0, 1, 2], [0, 1, 0, 1, 0], [10 ** 30], [-10 ** 30]):
                statement = (kind, "a", "base", [(cell, 1) for cell in cells])
                refused(self, BadStatement, (1,), Program, *task(("print", 0), statement))
            refused(self, BadStatement, (0,), Program, [0] * 9, [], [[(kind, "a", "base", [(n, 1) for n in range(5)])]])
            Program([0] * 9, [], [[(kind, "a", "base", [(n, "x") for n in (3, 1, 8, 0)])]])

    def test_writes_that_are_no_pairs(self):
        refused(self, BadStatement, (0,), Program, *task(("put", "a", "base", [(0, 1), (1,)])))
        refused(self, BadStatement, (0,), Program, *task(("put", "a", "base", [(0, 1, 1)])))

    def test_cells_that_are_read(self):
        for cell in (2, -1, 10 ** 30, -10 ** 30):
            refused(self, BadStatement, (0,), Program, *task(("read", "x", "base", cell)))
        for cell in (0, 1):
            Program(*task(("read", "x", "base", cell)))

    def test_counts(self):
        for count in (-1, 10, 10 ** 30):
            refused(self, BadStatement, (0,), Program, *task(("repeat", count, [put([5])])))
        for count in (0, 9):
            Program(*task(("repeat", count, [FAIL])))

    def test_calls(self):
        call = ("call", "late")
        refused(self, BadStatement, (0,), Program, *task(call))
        refused(self, BadStatement, (0,), Program, [0], [("early", [call]), ("late", [])], [])
        refused(self, BadStatement, (1,), Program, [0], [("early", [FAIL]), ("late", [call])], [])
        refused(self, BadStatement, (3,), Program, [0], [("early", [FAIL])], [[("either", [], [("repeat", 2, [call])])]])
        refused(self, BadStatement, (3,), Program, [0],
                [("early", [("either", [], [("repeat", 2, [FAIL, call])])]), ("late", [])], [])
        Program([0], [("late", []), ("early", [call])], [[call, ("call", "early")], [("less", 0, 1, [call], [])]])

    def test_unbound_names_are_no_error(self):
        Program(*task(("join", "a", "b", "c"), ("read", "x", "nothing", 0), ("print", "x")))

    def test_numbers_of_statements(self):
        procedures = [
            ("one", [("print", 1), ("either", [FAIL, ("repeat", 1, [FAIL])], [FAIL]), FAIL]),
            ("two", [("within", "a", "base", [FAIL])])]
        tasks = [[("less", 1, 2, [FAIL], [FAIL, FAIL]), FAIL], [], [FAIL]]
        Program([0], procedures, tasks)
        bodies = (
            (lambda p, t: p[0][1], (0, 1, 6)), (lambda p, t: p[0][1][1][1], (2, 3)),
            (lambda p, t: p[0][1][1][1][1][2], (4,)), (lambda p, t: p[0][1][1][2], (5,)),
            (lambda p, t: p[1][1], (7,)), (lambda p, t: p[1][1][0][3], (8,)), (lambda p, t: t[0], (9, 13)),
            (lambda p, t: t[0][0][3], (10,)), (lambda p, t: t[0][0][4], (11, 12)), (lambda p, t: t[2], (14,)))
        for find, numbers in bodies:
            for place, number in enumerate(numbers):
                changed = copy.deepcopy((procedures, tasks))
                find(*changed)[place] = put([7])
                with self.subTest(number=number):
                    refused(self, BadStatement, (number,), Program, [0], *changed)

    def test_the_first_bad_statement_is_reported(self):
        refused(self, BadStatement, (1,), Program, [0], [("a", [FAIL, ("repeat", 10, [put([9])])])], [[put([9])]])
        refused(self, BadStatement, (2,), Program, [0], [("a", [FAIL])], [[("either", [put([9])], [put([9])])]])

    def test_at_the_limits(self):
        body = [FAIL]
        for _ in range(6):
            body = [FAIL, ("less", "x", -1, [("print", 10 ** 60 - 1)], body)]
        procedures = [(f"p{number}", [("call", f"p{number - 1}")] if number else []) for number in range(6)]
        program = Program([10 ** 60 - 1] * 400, procedures, [body] * 4)
        self.assertEqual(program.tasks, [body] * 4)


if __name__ == "__main__":
    unittest.main()

"""Points 72 and 73: programs as texts."""

import copy
import random
import unittest

from livecopy.errors import BadCell, BadLine, BadProcedure, BadStatement
from livecopy.programs import Program
from livecopy.programtext import parse_program, program_text
from livecopy.runs import run_plain
from tests.support import refused, same_arguments
from tests.taskmodel import random_parts

TEXT = """base 10 -20 0
proc go
  print x
  either
    fail
  or
  end
end
proc empty
end
task
  put a base 0=5 2=x 1=-7
  loose b a 1=0
  join c a b
  meet d a b
  without e c a
  read x c 2
  sum y x -3
  print 12
  less x 5
    repeat 9
      call go
    end
  else
    within a base
      print y
    end
  end
  either
  or
    fail
  end
end
task
end
"""

PARTS = (
    [10, -20, 0],
    [("go", [("print", "x"), ("either", [("fail",)], [])]), ("empty", [])],
    [[
        ("put", "a", "base", [(0, 5), (2, "x"), (1, -7)]), ("loose", "b", "a", [(1, 0)]), ("join", "c", "a", "b"),
        ("meet", "d", "a", "b"), ("without", "e", "c", "a"), ("read", "x", "c", 2), ("sum", "y", "x", -3),
        ("print", 12),
        ("less", "x", 5, [("repeat", 9, [("call", "go")])], [("within", "a", "base", [("print", "y")])]),
        ("either", [], [("fail",)])], []])


def parts_of(program):
    return program.base, program.procedures, program.tasks


def task_text(*lines):
    """The text of a program of three cells with one task of these lines."""
    return "base 1 2 3\ntask\n" + "".join(f"  {line}\n" for line in lines) + "end\n"


class ProgramTextTest(unittest.TestCase):

    def test_a_text(self):
        program = Program(*PARTS)
        self.assertEqual(program_text(program), TEXT)
        self.assertEqual(parts_of(program), PARTS)
        self.assertEqual(parts_of(parse_program(TEXT)), PARTS)

    def test_kinds_of_what_is_read(self):
        program = parse_program(TEXT)
        self.assertIs(program.__class__, Program)
        statements = program.tasks[0]
        self.assertEqual([part.__class__ for part in (program.base, program.procedures, program.tasks, statements)], [list] * 4)
        self.assertEqual({part.__class__ for part in [*statements, *program.procedures, *statements[0][3]]}, {tuple})
        self.assertEqual([part.__class__ for part in (statements[0][3], statements[8][3], statements[8][4])], [list] * 3)

    def test_round_trip(self):
        for seed in range(200):
            program = Program(*random_parts(random.Random(seed)))
            text = program_text(program)
            read = parse_program(text)
            self.assertEqual(parts_of(read), parts_of(program))
            self.assertEqual(program_text(read), text)
            if seed < 20:
                self.assertEqual(run_plain(read).outcomes, run_plain(program).outcomes)

    def test_a_program_without_anything(self):
        self.assertEqual(program_text(Program([0], [], [])), "base 0\n")
        self.assertEqual(parts_of(parse_program("base 0\n")), ([0], [], []))

    def test_every_cut_of_a_text(self):
        lines = TEXT.split("\n")[:-1]
        for many in range(len(lines)):
            head = "".join(line + "\n" for line in lines[:many])
            # A text may end behind a line without indentation, but for a line that opens a body.
            whole = many > 0 and not lines[many - 1].startswith((" ", "proc", "task"))
            if whole:
                parse_program(head)
            else:
                refused(self, BadLine, (many + 1,), parse_program, head)
            refused(self, BadLine, (many + 1,), parse_program, head + lines[many])

    def test_a_missing_last_newline(self):
        refused(self, BadLine, (1,), parse_program, "base 0")
        refused(self, BadLine, (1,), parse_program, "base x\ntask")
        refused(self, BadLine, (3,), parse_program, "base 0\ntask\nend")
        refused(self, BadLine, (2,), parse_program, "base 0\nhello\nend")
        refused(self, BadLine, (2,), parse_program, "base 0\n ")
        # The whole text is not read, so what point 64 refuses is not reported.
        refused(self, BadLine, (5,), parse_program, "base 0\ntask\n  call nobody\nend\ntask")

    def test_the_empty_text(self):
        refused(self, BadLine, (1,), parse_program, "")
        refused(self, BadLine, (1,), parse_program, "\n")

    def test_each_wrong_line(self):
        wrong = (
            "", " ", "print", "print ", "print x ", "print  x", " print x", "print x y", "Print x", "print X", "print x_",
            "print +1", "print 01", "print -0", "print -", "print 1-", "print --1", "print 1.0", "print 1,2", "print -01",
            "print abcdefghijklm", "print 1x", "print x\t", "print\tx", "print " + "1" * 61, "print -" + "1" * 61,
            "put a", "put a base 0", "put a base 0=", "put a base =1", "put a base 0=1=2", "put a base 0=1  1=2",
            "put a base 0= 1", "put a base x=1", "put a base 0=1 ", "put a base 00=1", "put a base 0=X", "put 1 base 0=1",
            "put a 1 0=1", "put a base 0=1,1=2", "loose a", "loose a base 1", "join a b", "join a b c d", "join a b 1",
            "meet a b", "meet a 1 b", "without a b", "without 1 a b", "without a b c c", "read x a", "read x a y",
            "read x a 0 0", "read x a +0", "read 1 a 0", "sum x y", "sum 1 2 3", "sum x y z z", "less x", "less", "repeat",
            "repeat x", "repeat 1 2", "within a", "within a b c", "within a 1", "call", "call 1", "call a b", "either x",
            "either ", "fail x", "fail ", "fails", "end x", "else", "or", "end", "task", "proc go", "base 1", "drop a",
            "collect", "\x7f", "print \xb2", "print \u0663")
        for line in wrong:
            with self.subTest(line=line):
                refused(self, BadLine, (4,), parse_program, task_text("print 1", line, "nonsense"))

    def test_wrong_lines_around_the_bodies(self):
        wrong = (
            ("base\tx\n", 1), ("base 1 \n", 1), (" base 1\n", 1), ("base  1\n", 1), ("Base 1\n", 1), ("task\nend\n", 1),
            ("base x\n", 1), ("base 1 2 -\n", 1), ("base 1\nbase 1\n", 2), ("base 1\n\n", 2), ("base 1\nend\n", 2),
            ("base 1\nproc\nend\n", 2), ("base 1\nproc A\nend\n", 2), ("base 1\nproc a b\nend\n", 2),
            ("base 1\nproc 1\nend\n", 2), ("base 1\n  proc a\nend\n", 2), ("base 1\ntask a\nend\n", 2),
            ("base 1\ntask \nend\n", 2), ("base 1\ntask\nend \n", 3), ("base 1\ntask\n  end\n", 3),
            ("base 1\ntask\nend\nproc a\nend\n", 4), ("base 1\ntask\nend\nend\n", 4), ("base 1\ntask\nend\nprint 1\n", 4),
            ("base 1\ntask\nend\n\n", 4), ("base 1\nproc a\ntask\nend\n", 3), ("base 1\ntask\nelse\n", 3),
            ("base 1\ntask\nprint 1\nend\n", 3), ("base 1\ntask\n print 1\nend\n", 3), ("base 1\ntask\n   print 1\nend\n", 3),
            ("base 1\ntask\n    print 1\nend\n", 3))
        for text, line in wrong:
            with self.subTest(text=text):
                refused(self, BadLine, (line,), parse_program, text)

    def test_indentation_and_middles(self):
        wrong = (
            (("less 0 1", "print 1", "else", "end"), 4), (("less 0 1", "    print 1", "else", "end"), 4),
            (("less 0 1", "end"), 4), (("less 0 1", "or", "end"), 4), (("less 0 1", "else", "else", "end"), 5),
            (("less 0 1", "  else", "end"), 4), (("less 0 1", "else ", "end"), 4), (("less 0 1", "else", "or"), 5),
            (("either", "else", "end"), 4), (("either", "end"), 4), (("either", "or", "or"), 5), (("either", "or x"), 4),
            (("repeat 1", "or", "end"), 4), (("repeat 1", "else", "end"), 4), (("repeat 1", "  end"), 4),
            (("repeat 1", "end x"), 4), (("within a base", " print 1", "end"), 4), (("within a base", "   print 1", "end"), 4),
            (("repeat 1", "  repeat 1", "  print 1", "  end", "end"), 5), (("repeat 1", "  repeat 1", "end"), 5),
            (("repeat 1", "  repeat 1", "    end"), 5), (("fail", "  fail"), 4), (("print 1", "end"), 4))
        for lines, line in wrong:
            with self.subTest(lines=lines):
                refused(self, BadLine, (line,), parse_program, task_text(*lines))

    def test_the_first_wrong_line_is_reported(self):
        refused(self, BadLine, (3,), parse_program, task_text("nonsense", "print", "") + "x")
        refused(self, BadLine, (1,), parse_program, "bas 1\nx")

    def test_errors_of_programs_come_behind_the_whole_text(self):
        refused(self, BadCell, (0,), parse_program, "base\ntask\n  repeat 10\n  end\nend\n")
        refused(self, BadCell, (0,), parse_program, "base\n")
        refused(self, BadLine, (2,), parse_program, "base\nnonsense\n")
        refused(self, BadProcedure, ("a",), parse_program, "base 1\nproc a\n  call b\nend\nproc a\nend\n")
        refused(self, BadStatement, (0,), parse_program, "base 1\nproc a\n  call b\nend\nproc b\nend\n")
        refused(self, BadLine, (7,), parse_program, "base 1\nproc a\n  call b\nend\nproc b\nend\nx\n")
        for line in ("put a base", "loose a base", "put a base 3=1", "put a base -1=x", "put a base 0=1 0=2",
                     "put a base 0=1 1=1 2=1 0=1 0=1", "read x base 3", "read x base -1", "call nobody",
                     "read x base " + "9" * 60, "loose a base -" + "9" * 60 + "=1"):
            refused(self, BadStatement, (1,), parse_program, task_text("print 1", line, "call nobody"))
        for count in ("10", "-1", "9" * 60):
            refused(self, BadStatement, (1,), parse_program, task_text("print 1", "repeat " + count, "  fail", "end"))

    def test_numbers_of_sixty_digits(self):
        great = 10 ** 60 - 1
        base, tasks = [great, -great], [[("put", "a", "base", [(0, -great)]), ("print", great)]]
        text = program_text(Program(base, [], tasks))
        self.assertEqual(text, f"base {great} {-great}\ntask\n  put a base 0={-great}\n  print {great}\nend\n")
        self.assertEqual(parts_of(parse_program(text)), (base, [], tasks))

    def test_longer_numbers_are_written_and_not_read(self):
        for number in (10 ** 60, -10 ** 60, 10 ** 61 + 7, 10 ** 120, 3 * 10 ** 125 + 5, -(10 ** 180) + 1):
            text = program_text(Program([0], [], [[("print", number)]]))
            self.assertEqual(text, f"base 0\ntask\n  print {number}\nend\n")
            refused(self, BadLine, (3,), parse_program, text)
            refused(self, BadLine, (1,), parse_program, program_text(Program([number], [], [])))

    def test_very_long_numbers(self):
        # Python itself does not write numbers of more than 4300 digits.
        text = program_text(Program([10 ** 5000, -(10 ** 5000)], [], [[("put", "a", "base", [(0, 10 ** 4999 + 1)])]]))
        zeros = "0" * 5000
        self.assertEqual(text, f"base 1{zeros} -1{zeros}\ntask\n  put a base 0=1{zeros[2:]}1\nend\n")
        refused(self, BadLine, (1,), parse_program, text)

    def test_names(self):
        names = ("a", "z9", "abcdefghijkl", "a12345678901", "end", "task", "base", "put", "else")
        for name in names:
            text = f"base 1\nproc {name}\n  put {name} base 0={name}\nend\ntask\n  call {name}\n  read {name} {name} 0\nend\n"
            program = parse_program(text)
            self.assertEqual(program.tasks, [[("call", name), ("read", name, name, 0)]])
            self.assertEqual(program_text(program), text)

    def test_nothing_is_changed_or_shared(self):
        program = Program(*copy.deepcopy(PARTS))
        same_arguments(self, program_text, program)
        self.assertEqual(parts_of(program), PARTS)
        parse_program(TEXT).tasks.clear()
        self.assertEqual(parts_of(parse_program(TEXT)), PARTS)

    def test_at_the_limits(self):
        body = [("print", "x")]
        for _ in range(6):
            body = [("either", body, [("fail",)])]
        program = Program([10 ** 60 - 1] * 400, [(f"p{n}", [("fail",)] * 9) for n in range(6)], [body] * 4)
        self.assertEqual(parts_of(parse_program(program_text(program))), parts_of(program))


if __name__ == "__main__":
    unittest.main()

"""Programs as texts."""

from livecopy.lines import Lines, joined_lines, numbers_line, parts_line
from livecopy.programs import FORMS, Program, bodies_of

# The words between the two bodies of a statement.
MIDDLES = {"less": "else", "either": "or"}
WITH_ONE_BODY = ("repeat", "within")


def program_text(program):
    """Return the text of a program."""
    lines = [numbers_line("base", program.base)]
    for name, body in program.procedures:
        lines.extend([f"proc {name}", *_body_lines(body, 1), "end"])
    for body in program.tasks:
        lines.extend(["task", *_body_lines(body, 1), "end"])
    return joined_lines(lines)


def parse_program(text):
    """Return the program of a text."""
    lines = Lines(text)
    base = lines.take().take_base()
    procedures = []
    tasks = []
    while not lines.is_over():
        line = lines.take()
        word = line.take_word()
        if word == "proc" and len(tasks) == 0:
            name = line.take_name()
            line.finish()
            procedures.append((name, _read_body(lines, 1, "end")))
        elif word == "task":
            line.finish()
            tasks.append(_read_body(lines, 1, "end"))
        else:
            line.refuse()
    return Program(base, procedures, tasks)


def _body_lines(body, depth):
    """Return the lines of a body in so many open ones."""
    lines = []
    for statement in body:
        lines.extend(_statement_lines(statement, depth))
    return lines


def _statement_lines(statement, depth):
    start = "  " * depth
    kind = statement[0]
    lines = [start + parts_line(statement, FORMS[kind])]
    bodies = bodies_of(statement)
    for place, body in enumerate(bodies):
        if place > 0:
            lines.append(start + MIDDLES[kind])
        lines.extend(_body_lines(body, depth + 1))
    if len(bodies) > 0:
        lines.append(start + "end")
    return lines


def _read_body(lines, depth, closing):
    """Read a body in so many open ones, and the line with the word that closes it."""
    body = []
    while True:
        line = lines.take(2 * depth - 2, 2 * depth)
        word = line.take_word()
        if line.indent == 2 * depth:
            body.append(_read_statement(lines, line, word, depth))
        elif word == closing:
            line.finish()
            return body
        else:
            line.refuse()


def _read_statement(lines, line, kind, depth):
    """Read the rest of a statement, whose first word is known, and its bodies."""
    if kind not in FORMS:
        line.refuse()
    parts = line.take_parts(FORMS[kind])
    bodies = []
    if kind in MIDDLES:
        bodies.append(_read_body(lines, depth + 1, MIDDLES[kind]))
    if kind in MIDDLES or kind in WITH_ONE_BODY:
        bodies.append(_read_body(lines, depth + 1, "end"))
    return (kind, *parts, *bodies)

"""Texts of programs."""

from interruptruns.errors import ParseError
from interruptruns.lines import Reader
from interruptruns.programs import Program, Source
from interruptruns.statements import FORMS, MOST, MOST_LEVELS, inner_bodies

COUNTER_LINE = ("counter", "NAME", "N")
SOURCE_LINE = (
    "source", "NAME", "level", "N", "gap", "N", "keep", "N", "enter", "N", "leave", "N",
)
TASK_LINE = ("task", "NAME")
BACKGROUND_LINE = ("background",)

# The lines that end the bodies of a statement, by the number of these bodies.
CLOSINGS = ((), ("end",), ("or", "end"))


def format_program(program):
    """Return the text of a program."""
    lines = [f"counter {name} {most}" for name, most in program.counters]
    for source in program.sources:
        lines.append(source_line(source))
        lines.extend(body_lines(source.body, "end"))
    for name, body in program.tasks:
        lines.append(f"task {name}")
        lines.extend(body_lines(body, "end"))
    lines.append("background")
    lines.extend(body_lines(program.background, "end"))
    return "\n".join(lines)


def source_line(source):
    """Return the line with which a source begins."""
    first = f"source {source.name} level {source.level} gap {source.gap}"
    return f"{first} keep {source.keep} enter {source.enter} leave {source.leave}"


def body_lines(body, closing):
    """Return the list of the lines of a body, with the one that ends it."""
    lines = []
    for statement in body:
        words = [str(part) for part in statement if not isinstance(part, tuple)]
        lines.append(" ".join(words))
        bodies = inner_bodies(statement)
        for inner, last in zip(bodies, CLOSINGS[len(bodies)]):
            lines.extend(body_lines(inner, last))
    lines.append(closing)
    return lines


def parse_program(text):
    """Return the program that is written in a text."""
    if not isinstance(text, str):
        raise ParseError(None)
    reader = Reader(text)
    parts = read_program(reader)
    if reader.has_more():
        raise ParseError(reader.at)
    return make_program(parts)


def read_program(reader):
    """Take the lines of a program, and return what make_program needs."""
    counters = []
    while reader.words()[0] == "counter":
        counters.append(tuple(reader.take(COUNTER_LINE)))
    sources = []
    while reader.words()[0] == "source":
        values = reader.take(SOURCE_LINE)
        sources.append((*values, read_body(reader, "end", 1)))
    tasks = []
    while reader.words()[0] == "task":
        values = reader.take(TASK_LINE)
        tasks.append((*values, read_body(reader, "end", 1)))
    reader.take(BACKGROUND_LINE)
    background = read_body(reader, "end", 1)
    return sources, background, tasks, counters


def make_program(parts):
    """Return the program of what read_program returned."""
    sources, background, tasks, counters = parts
    made = []
    for name, level, gap, keep, enter, leave, body in sources:
        made.append(Source(name, level, gap, body, keep=keep, enter=enter, leave=leave))
    return Program(tuple(made), background, tasks=tuple(tasks), counters=tuple(counters))


def read_body(reader, closing, level):
    """Take the lines of a body and the one that ends it, and return the body."""
    statements = []
    while reader.words() != [closing]:
        statements.append(read_statement(reader, level))
    reader.take((closing,))
    return tuple(statements)


def read_statement(reader, level):
    """Take the lines of a statement in a body of this level, and return it."""
    kind = reader.words()[0]
    if kind not in FORMS:
        raise ParseError(reader.at)
    many = FORMS[kind].count("body")
    if many > 0 and level == MOST_LEVELS:
        raise ParseError(reader.at)
    statement = [kind]
    statement.extend(reader.take(statement_line(kind)))
    for closing in CLOSINGS[many]:
        statement.append(read_body(reader, closing, level + 1))
    return tuple(statement)


def statement_line(kind):
    """Return the form of the first line of a statement."""
    parts = [part for part in FORMS[kind] if part != "body"]
    words = ["N" if part in MOST else "NAME" for part in parts]
    return (kind, *words)

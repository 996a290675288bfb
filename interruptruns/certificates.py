"""Certificates: texts that show what machines do, and whether they are right."""

from interruptruns.claims import CHOICE_LINE, NONE, is_right, read_certificate, read_choice
from interruptruns.errors import ParseError
from interruptruns.extremes import most_frames
from interruptruns.formats import format_program, make_program
from interruptruns.lines import read_words
from interruptruns.longest import check_event, longest
from interruptruns.machine import Machine
from interruptruns.pairs import pair_order
from interruptruns.reach import LIMIT, Search
from interruptruns.states import state_text
from interruptruns.waiting import fits


def format_choice(choice):
    """Return the text of a choice."""
    requests, over, ways = choice
    taken = "".join([way_text(way) for way in ways])
    return " ".join([",".join(requests) or NONE, way_text(over), taken or NONE])


def way_text(way):
    """Return the digit of a bool."""
    return "1" if way else "0"


def parse_choice(text):
    """Return the choice that is written in a text."""
    words = read_words(text.split(" "), CHOICE_LINE) if isinstance(text, str) else None
    choice = None if words is None else read_choice(words)
    if choice is None:
        raise ParseError(text)
    return choice


def certify(machine, question, limit=LIMIT):
    """Return the certificate of the greatest time of a wait."""
    found = longest(machine, question, limit)
    lines = [*first_lines(machine), question_line(question)]
    if found.ticks is None:
        lines.append("endless")
        lines.extend(choice_lines("choices", found.choices))
        lines.extend(choice_lines("ring", found.ring))
    else:
        lines.append(f"time {found.ticks}")
        lines.extend(choice_lines("choices", found.choices))
        lines.extend(counted("table", table_rows(found.table)))
    return "\n".join(lines)


def certify_never(machine, pattern, limit=LIMIT):
    """Return the certificate that no run has an event that fits, or None if one has."""
    check_event(machine.program, pattern)
    search = Search(machine, limit)
    happens = False
    while search.has_more():
        for choice, to, events, depth, height in search.next_ticks():
            happens = happens or any([fits(event, pattern) for event in events])
    if happens:
        return None
    kind, name = pattern
    lines = [*first_lines(machine), f"never {kind} {name}"]
    return "\n".join(lines + state_lines(search))


def certify_depth(machine, limit=LIMIT):
    """Return the certificate of the greatest number of frames."""
    depth, choices = most_frames(machine, limit)
    search = Search(machine, limit)
    while search.has_more():
        search.next_ticks()
    lines = [*first_lines(machine), f"depth {depth}", *choice_lines("choices", choices)]
    return "\n".join(lines + state_lines(search))


def first_lines(machine):
    """Return the list of the texts with which the certificates of a machine begin."""
    return [format_program(machine.program), f"faults {machine.overruns} {machine.early}"]


def question_line(question):
    """Return the line of a question."""
    if isinstance(question, str):
        return f"answers {question}"
    first, last = question
    return " ".join(["from", *first, "to", *last])


def counted(word, lines):
    """Return the list of these lines, behind one that tells how many they are."""
    return [f"{word} {len(lines)}", *lines]


def choice_lines(word, choices):
    """Return the list of the lines of choices."""
    return counted(word, [format_choice(choice) for choice in choices])


def table_rows(table):
    """Return the list of the lines of the pairs of a table and their numbers."""
    rows = []
    for pair in sorted(list(table), key=pair_order):
        text, ahead = pair
        rows.append(f"{text} {NONE if ahead is None else ahead} {table[pair]}")
    return rows


def state_lines(search):
    """Return the list of the lines of all states that were found, sorted by their texts."""
    return counted("states", sorted([state_text(parts) for parts in search.known.rows]))


def check(text):
    """Return whether a certificate is right."""
    if not isinstance(text, str):
        raise ParseError(None)
    parts, faults, word, claim = read_certificate(text)
    overruns, early = faults
    machine = Machine(make_program(parts), overruns=overruns, early=early)
    return is_right(machine, word, claim)

"""What certificates claim: how it is read, and whether it is right."""

from interruptruns.errors import ParseError
from interruptruns.formats import read_program
from interruptruns.lines import Reader, is_numeral
from interruptruns.longest import check_event, check_question
from interruptruns.papers import is_ring, is_table, is_wait, parts_of_text, run_by
from interruptruns.reach import is_closed
from interruptruns.states import State
from interruptruns.ticks import all_ticks
from interruptruns.waiting import Watch, fits

CHOICE_LINE = ("NAME", "NAME", "NAME")
STATE_LINE = ("NAME", "NAME", "NAME", "NAME", "NAME", "NAME", "NAME", "NAME")
TABLE_LINE = (
    "NAME", "NAME", "NAME", "NAME", "NAME", "NAME", "NAME", "NAME", "NAME", "N",
)
NONE = "-"
WAYS = {"0": False, "1": True}


def read_choice(words):
    """Return the choice that three words tell, or None if they tell none."""
    names, over, ways = words
    requests = () if names == NONE else tuple(names.split(","))
    taken = "" if ways == NONE else ways
    if "" in requests or over not in WAYS or not all([way in WAYS for way in taken]):
        return None
    return requests, WAYS[over], tuple([WAYS[way] for way in taken])


def read_certificate(text):
    """Return what a certificate tells: the parts of a program, the faults, and a claim with its word."""
    reader = Reader(text)
    parts = read_program(reader)
    faults = reader.take(("faults", "N", "N"))
    word = reader.words()[0]
    if word not in READERS:
        raise ParseError(reader.at)
    read = READERS[word]
    claim = read(reader)
    if reader.has_more():
        raise ParseError(reader.at)
    return parts, faults, word, claim


def take_rows(reader, word, take):
    """Take a line that tells how many follow, and return the list of what is taken from these."""
    many = reader.take((word, "N"))[0]
    rows = []
    while len(rows) < many:
        rows.append(take(reader))
    return rows


def take_choice(reader):
    """Take a line with a choice, and return it."""
    at = reader.at
    choice = read_choice(reader.take(CHOICE_LINE))
    if choice is None:
        raise ParseError(at)
    return choice


def take_text(reader):
    """Take a line with a state, and return its text."""
    return " ".join(reader.take(STATE_LINE))


def take_entry(reader):
    """Take a line of a table, and return its pair and its number."""
    at = reader.at
    *words, ahead, number = reader.take(TABLE_LINE)
    if ahead != NONE and not is_numeral(ahead):
        raise ParseError(at)
    return (" ".join(words), None if ahead == NONE else int(ahead)), number


def read_answers(reader):
    """Take the lines of a claim about answers."""
    return read_times(reader, reader.take(("answers", "NAME"))[0])


def read_patterns(reader):
    """Take the lines of a claim about two patterns."""
    kind, name, last_kind, last_name = reader.take(("from", "NAME", "NAME", "to", "NAME", "NAME"))
    return read_times(reader, ((kind, name), (last_kind, last_name)))


def read_times(reader, question):
    """Take the lines behind a question: a time or None, choices, and a table or a ring."""
    if reader.words() == ["endless"]:
        reader.take(("endless",))
        choices = take_rows(reader, "choices", take_choice)
        return question, None, choices, take_rows(reader, "ring", take_choice)
    ticks = reader.take(("time", "N"))[0]
    choices = take_rows(reader, "choices", take_choice)
    return question, ticks, choices, take_rows(reader, "table", take_entry)


def read_never(reader):
    """Take the lines of a claim that no event fits a pattern."""
    kind, name = reader.take(("never", "NAME", "NAME"))
    return (kind, name), take_rows(reader, "states", take_text)


def read_depth(reader):
    """Take the lines of a claim about the greatest number of frames."""
    depth = reader.take(("depth", "N"))[0]
    choices = take_rows(reader, "choices", take_choice)
    return depth, choices, take_rows(reader, "states", take_text)


def is_right(machine, word, claim):
    """Return whether a claim with this word is right."""
    judge = JUDGES[word]
    return judge(machine, claim)


def are_times_right(machine, claim):
    """Return whether a claim about times is right."""
    question, ticks, choices, rows = claim
    check_question(machine.program, question)
    if ticks is None:
        return is_ring(machine, question, choices, rows)
    table = {pair: number for pair, number in rows}
    if len(table) < len(rows) or not is_table(machine, question, table, ticks):
        return False
    if ticks == 0 and not choices:
        return not begins_waits(machine, question, table)
    return is_wait(machine, question, choices, ticks)


def begins_waits(machine, question, table):
    """Return whether a wait begins in a step from a state of a table."""
    watch = Watch(machine.program, question)
    for text, ahead in table:
        parts = parts_of_text(machine.program, text)
        for told in all_ticks(machine.program, parts):
            if watch.seen(parts, told[2])[1]:
                return True
    return False


def is_never_right(machine, claim):
    """Return whether a claim that no event fits a pattern is right."""
    pattern, texts = claim
    check_event(machine.program, pattern)
    ticks = closed_ticks(machine, texts)
    if ticks is None:
        return False
    return not any([fits(event, pattern) for told in ticks for event in told[2]])


def is_depth_right(machine, claim):
    """Return whether a claim about the greatest number of frames is right."""
    depth, choices, texts = claim
    ticks = closed_ticks(machine, texts)
    run = run_by(machine, choices)
    if ticks is None or run is None or len(run) == 0:
        return False
    steps = run.parts[1]
    return steps[-1].depth == depth and all([told[3] <= depth for told in ticks])


def closed_ticks(machine, texts):
    """Return the list of all ticks from the states of these texts, or None if they are not closed.

    The texts have to be different.
    """
    program = machine.program
    rows = [parts_of_text(program, text) for text in texts]
    if None in rows or len(set(texts)) < len(texts):
        return None
    if not is_closed(machine, [State(*parts) for parts in rows]):
        return None
    return [told for parts in rows for told in all_ticks(program, parts)]


# The first words of claims, with what takes their lines and what tells whether they are right.
READERS = {
    "answers": read_answers, "from": read_patterns, "never": read_never, "depth": read_depth,
}
JUDGES = {
    "answers": are_times_right, "from": are_times_right, "never": is_never_right, "depth": is_depth_right,
}

"""A second reading of certificates, for comparison: lines as regular expressions, and what makes them right."""

import re

from interruptruns.errors import InvalidChoice, ParseError
from interruptruns.runs import Run
from interruptruns.states import parse_state
from samples import inside, outside
from second_waits import fits, first_row, led, wait_behind, waits_begun

NUMBER = "(0|[1-9][0-9]{0,29})"
WORD = "([^ ]+)"
CHOICE = "(-|[^ ,]+(,[^ ,]+)*) [01] (-|[01]+)"
STATE = " ".join(["[^ ]+"] * 8)
ENTRY = f"{STATE} (-|{NUMBER}) {NUMBER}"


def program_lines(lines):
    """How many lines the program at the beginning has, and whether there is a wrong one behind these."""
    part, ends = 0, []
    for at, line in enumerate(lines):
        words = line.split(" ")
        if ends:
            ends = inside(words, ends)
        elif part == 3:
            return at, False
        else:
            part, ends = outside(words, part)
        if ends is None:
            return at, True
    return len(lines), part != 3 or bool(ends)


def wrong_line(text):
    """The index of the first wrong line of a certificate, the number of lines, or None."""
    lines = text.split("\n")
    at, wrong = program_lines(lines)
    if wrong:
        return at
    # What is still to come, as regular expressions, the next one last.
    coming = ["QUESTION", f"faults {NUMBER} {NUMBER}"]
    while coming:
        if at == len(lines):
            return at
        form = coming.pop()
        if form == "QUESTION":
            more = question_forms(lines[at])
        elif form == "TIME":
            more = time_forms(lines[at])
        else:
            more = block_forms(form, lines[at], len(lines))
        if more is None:
            return at
        coming.extend(more)
        at += 1
    return None if at == len(lines) else at


def question_forms(line):
    if re.fullmatch(f"answers {WORD}|from {WORD} {WORD} to {WORD} {WORD}", line):
        return ["TIME"]
    if re.fullmatch(f"never {WORD} {WORD}", line):
        return ["states"]
    return ["states", "choices"] if re.fullmatch(f"depth {NUMBER}", line) else None


def time_forms(line):
    if line == "endless":
        return ["ring", "choices"]
    return ["table", "choices"] if re.fullmatch(f"time {NUMBER}", line) else None


def block_forms(form, line, most):
    blocks = {"choices": CHOICE, "ring": CHOICE, "states": STATE, "table": ENTRY}
    if form not in blocks:
        return [] if re.fullmatch(form, line) else None
    found = re.fullmatch(f"{form} {NUMBER}", line)
    return [blocks[form]] * min(int(found[1]), most) if found else None


def is_right(machine, lines):
    """Whether the lines behind those of the faults are right; they are written as they should be."""
    words = lines[0].split(" ")
    if words[0] == "never":
        return is_never_right(machine, tuple(words[1:]), lines[2:])
    if words[0] == "depth":
        choices, rest = block(lines[1:])
        return is_depth_right(machine, int(words[1]), choices, rest[1:])
    question = words[1] if words[0] == "answers" else (tuple(words[1:3]), tuple(words[4:]))
    choices, rest = block(lines[2:])
    if lines[1] == "endless":
        return is_endless_right(machine, question, choices, rest[1:])
    return is_time_right(machine, question, int(lines[1].split(" ")[1]), choices, rest[1:])


def block(lines):
    """The lines of a block, and those behind it."""
    many = int(lines[0].split(" ")[1])
    return lines[1:many + 1], lines[many + 1:]


def choice_of(line):
    names, over, ways = line.split(" ")
    return tuple(names.split(",")) if names != "-" else (), over == "1", tuple(way == "1" for way in ways if ways != "-")


def run_of(machine, lines):
    try:
        return Run(machine, [choice_of(line) for line in lines])
    except InvalidChoice:
        return None


def state_of(machine, text):
    try:
        return parse_state(machine.program, text)
    except ParseError:
        return None


def steps_of(run):
    return [run.machine.step(state, one) for state, one in zip(run.states, run.choices)]


def steps_of_closed(machine, lines):
    """All steps from these states, None unless these are closed and different."""
    states = [state_of(machine, line) for line in lines]
    if None in states or len(set(lines)) < len(lines) or machine.start.text not in lines:
        return None
    steps = [step for state in states for step in machine.steps(state)]
    return steps if {step.state.text for step in steps} <= set(lines) else None


def is_never_right(machine, pattern, lines):
    steps = steps_of_closed(machine, lines)
    return steps is not None and not any(fits(event, pattern) for step in steps for event in step.events)


def is_depth_right(machine, depth, choices, lines):
    steps, run = steps_of_closed(machine, lines), run_of(machine, choices)
    if steps is None or run is None or not choices:
        return False
    return steps_of(run)[-1].depth == depth and max(step.depth for step in steps) <= depth


def row_behind(run, question):
    """The row of waits behind a run, and the times of those that have ended."""
    row, times = first_row(run.machine, question), []
    for moment, step in enumerate(steps_of(run)):
        row, ended = led(question, row, moment, step.events)
        times.extend(end - begin for begin, end in ended)
    return row, times


def is_endless_right(machine, question, choices, ring):
    run = run_of(machine, choices)
    longer = run_of(machine, choices + ring)
    if run is None or longer is None or not ring or longer.last != run.last:
        return False
    row = row_behind(run, question)[0]
    for at, begin in enumerate(row):
        first = ahead = at if isinstance(question, str) else 0
        for step in steps_of(longer)[len(choices):]:
            if ahead is not None:
                ahead = wait_behind(question, ahead, step.events)[1]
        if begin is not None and ahead == first:
            return True
    return False


def is_time_right(machine, question, ticks, choices, lines):
    table = {}
    for line in lines:
        *words, ahead, number = line.split(" ")
        pair = " ".join(words), None if ahead == "-" else int(ahead)
        if pair in table or state_of(machine, pair[0]) is None:
            return False
        table[pair] = int(number)
    if (machine.start.text, None) not in table:
        return False
    begun = 0
    for pair in table:
        found = needed_ticks(machine, question, pair, table)
        if found is None or max(found, default=0) > (ticks if pair[1] is None else table[pair]):
            return False
        state = state_of(machine, pair[0])
        begun += sum(len(waits_begun(machine, question, state, step.events)) for step in machine.steps(state))
    if ticks == 0 and not choices:
        return begun == 0
    run = run_of(machine, choices)
    return run is not None and ticks in row_behind(run, question)[1]


def needed_ticks(machine, question, pair, table):
    """What the waits of a pair need at most by a table, step by step; None if a pair is missing."""
    state, found = state_of(machine, pair[0]), []
    for step in machine.steps(state):
        text = step.state.text
        if pair[1] is None:
            waits = waits_begun(machine, question, state, step.events)
        else:
            waits = [(0, *wait_behind(question, pair[1], step.events))]
        behind = [(text, None)] if pair[1] is None else []
        behind += [(text, left) for begin, end, left in waits if end is None]
        if not all(to in table for to in behind):
            return None
        found += [end - begin if end is not None else 1 - begin + table[text, left] for begin, end, left in waits]
    return found

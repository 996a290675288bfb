"""Papers that show how long waits can be: runs, rings and tables."""

from interruptruns.errors import InvalidChoice, ParseError
from interruptruns.longest import check_question, waits
from interruptruns.runs import Run
from interruptruns.states import parse_state
from interruptruns.ticks import all_ticks
from interruptruns.values import is_count
from interruptruns.waiting import Watch, rows_of, waits_along


def is_wait(machine, question, choices, ticks):
    """Return whether the choices are those of a run in which a wait of just this time ends."""
    check_question(machine.program, question)
    run = run_by(machine, choices)
    if run is None or not is_count(ticks):
        return False
    return ticks in [end - begin for begin, end in waits(run, question)]


def run_by(machine, choices):
    """Return the run of a machine by these choices, or None if they are none."""
    try:
        return Run(machine, choices)
    except InvalidChoice:
        return None


def is_ring(machine, question, choices, ring):
    """Return whether a wait is under way behind the choices that goes on along the ring.

    The ring has to lead to the same state and the same number ahead.
    """
    check_question(machine.program, question)
    run = run_by(machine, choices)
    if run is None or not isinstance(ring, (list, tuple)) or len(ring) == 0:
        return False
    longer = run_by(machine, [*run.choices, *ring])
    if longer is None or longer.last != run.last:
        return False
    watch = Watch(machine.program, question)
    rows = rows_of(longer)
    ended, going = waits_along(watch, rows[:len(run)])
    return any([comes_back(watch, ahead, rows[len(run):]) for begin, ahead in going])


def comes_back(watch, ahead, rows):
    """Return whether a wait goes on along these rows, and has the same number ahead behind them."""
    left = ahead
    for parts, events in rows:
        ends, begun = watch.seen(parts, events)
        end, left = watch.follow(ends, left)
        if end is not None:
            return False
    return left == ahead


def is_table(machine, question, value, ticks):
    """Return whether the value is a table for this number of ticks."""
    check_question(machine.program, question)
    if not isinstance(value, dict) or not is_count(ticks):
        return False
    numbers = table_numbers(machine.program, value)
    if numbers is None or (machine.start.parts, None) not in numbers:
        return False
    watch = Watch(machine.program, question)
    aheads = {}
    for parts, ahead in numbers:
        aheads.setdefault(parts, []).append(ahead)
    for parts in aheads:
        for choice, behind, events, depth, height in all_ticks(machine.program, parts):
            seen = watch.seen(parts, events)
            for ahead in aheads[parts]:
                most = ticks if ahead is None else numbers[parts, ahead]
                if not holds(watch, seen, behind, ahead, most, numbers):
                    return False
    return True


def table_numbers(program, value):
    """Return the dict from the parts of states and numbers ahead to the numbers of a dict.

    Return None if there are other keys or values in it than those of a table.
    """
    known = {}
    numbers = {}
    for pair, number in value.items():
        read = read_pair(program, pair, known)
        if read is None or not is_count(number):
            return None
        numbers[read] = number
    return numbers


def read_pair(program, value, known):
    """Return the tuple of the parts of the state and the number ahead of a pair, or None if it is none.

    The dict keeps the parts of the texts that were read already.
    """
    if not isinstance(value, tuple) or len(value) != 2:
        return None
    text, ahead = value
    if not isinstance(text, str) or not (ahead is None or is_count(ahead)):
        return None
    if text not in known:
        known[text] = parts_of_text(program, text)
    return None if known[text] is None else (known[text], ahead)


def parts_of_text(program, text):
    """Return the parts of the state of a text, or None if it is not one of a state."""
    try:
        return parse_state(program, text).parts
    except ParseError:
        return None


def holds(watch, seen, behind, ahead, most, numbers):
    """Return whether no wait of a pair needs more ticks than these, by what is behind a step."""
    if ahead is None and (behind, None) not in numbers:
        return False
    for offset, end, left in watch.waits_of(ahead, *seen):
        if end is None:
            if (behind, left) not in numbers or 1 - offset + numbers[behind, left] > most:
                return False
        elif end - offset > most:
            return False
    return True

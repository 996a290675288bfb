"""A second reading of waits, for comparison: requests in a row, each with its own age."""

ASKED = ("request", "early", "timer", "raise")


def fits(event, pattern):
    kinds = ASKED if pattern[0] == "asked" else (pattern[0],)
    return event[1] in kinds and event[2] == pattern[1]


def own_waits(name, row, moment, events):
    """Lead the row of owed requests, each the moment of its beginning or None, through events.

    Return the row and the list of (begin, end) of the waits that end.
    """
    row, ended = list(row), []
    for at, (offset, kind, what) in enumerate(events):
        if what != name:
            continue
        if kind == "answer" and row:
            begin = row.pop(0)
            if begin is not None:
                ended.append((begin, moment + offset))
        if kind in ASKED:
            lost = at + 1 < len(events) and events[at + 1][1] == "lost"
            if not lost:
                row.append(moment + offset)
    return row, ended


def pattern_waits(question, row, moment, events):
    """The same for two patterns: all waits of the row end with the next last event."""
    row, ended = list(row), []
    for event in events:
        if fits(event, question[1]):
            ended.extend((begin, moment + event[0]) for begin in row)
            row = []
        if fits(event, question[0]):
            row.append(moment + event[0])
    return row, ended


def first_row(machine, question):
    """The row of a run without ticks: what the beginning asks is owed."""
    if not isinstance(question, str):
        return []
    at = machine.program.names.index(question)
    return [None] * machine.start.owed[at]


def led(question, row, moment, events):
    if isinstance(question, str):
        return own_waits(question, row, moment, events)
    return pattern_waits(question, row, moment, events)


def all_waits(run, question):
    """All waits of a run that have ended, sorted, and the moments of those that have not."""
    row, found = first_row(run.machine, question), []
    state = run.machine.start
    for moment, choice in enumerate(run.choices):
        step = run.machine.step(state, choice)
        row, ended = led(question, row, moment, step.events)
        found.extend(ended)
        state = step.state
    return sorted(found), [begin for begin in row if begin is not None]


def greatest_wait(machine, question, most=80):
    """The greatest time of a wait, or None if one is longer than the most; by going through all."""
    start = machine.start, tuple(first_row(machine, question))
    waiting, best = [start], 0
    known = {(start[0].text, start[1]): True}
    steps = {}
    while waiting:
        state, row = waiting.pop()
        if state.text not in steps:
            steps[state.text] = machine.steps(state)
        for step in steps[state.text]:
            # All moments are counted from the state behind the step on.
            after, ended = led(question, row, -1, step.events)
            best = max([best, *(end - begin for begin, end in ended)])
            after = [None if begin is None else begin for begin in after]
            if any(begin is not None and begin < -most for begin in after):
                return None
            if not isinstance(question, str):
                after = after[:1]
            moved = tuple(None if begin is None else begin - 1 for begin in after)
            key = step.state.text, moved
            if key not in known:
                known[key] = True
                waiting.append((step.state, moved))
    return best


def wait_behind(question, ahead, events):
    """The offset of the end of a wait in these events, None if there is none, and its number ahead."""
    for offset, kind, what in events:
        if isinstance(question, str):
            if (kind, what) == ("answer", question):
                if ahead == 0:
                    return offset, None
                ahead -= 1
        elif fits((offset, kind, what), question[1]):
            return offset, None
    return None, ahead


def waits_begun(machine, question, state, events):
    """The tuples (offset of the beginning, offset of the end, number ahead) of what begins in a step."""
    found = []
    owed = 0
    if isinstance(question, str):
        owed = state.owed[machine.program.names.index(question)]
    for at, event in enumerate(events):
        if isinstance(question, str):
            lost = at + 1 < len(events) and events[at + 1][1] == "lost"
            if event[1:] == ("answer", question):
                owed = max(owed - 1, 0)
            if fits(event, ("asked", question)) and not lost:
                found.append((event[0], *wait_behind(question, owed, events[at + 1:])))
                owed += 1
        elif fits(event, question[0]):
            found.append((event[0], *wait_behind(question, 0, events[at + 1:])))
    return found


def all_pairs(machine, question):
    """The dict from all pairs that can be there to the lists of (gain, pair behind or None)."""
    waiting = [(machine.start, None)]
    found = {}
    while waiting:
        state, ahead = waiting.pop()
        if (state.text, ahead) in found:
            continue
        ways = found[state.text, ahead] = []
        for step in machine.steps(state):
            if ahead is None:
                waiting.append((step.state, None))
                told = waits_begun(machine, question, state, step.events)
            else:
                told = [(0, *wait_behind(question, ahead, step.events))]
            for begin, end, left in told:
                if end is None:
                    waiting.append((step.state, left))
                    ways.append((1 - begin, (step.state.text, left)))
                else:
                    ways.append((end - begin, None))
    return found


def exact_table(machine, question):
    """The table of all pairs, found by making numbers greater until nothing changes."""
    ways = all_pairs(machine, question)
    numbers = {pair: 0 for pair in ways}
    changed = True
    while changed:
        changed = False
        for pair, rows in ways.items():
            if pair[1] is not None:
                most = max(gain + (numbers[to] if to else 0) for gain, to in rows)
                changed = changed or most > numbers[pair]
                numbers[pair] = most
    return numbers

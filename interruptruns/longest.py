"""Longest times of waits."""

from interruptruns.errors import InvalidEvent
from interruptruns.pairs import Pairs
from interruptruns.reach import LIMIT, check_limit, way_to
from interruptruns.states import state_text
from interruptruns.sums import greatest_sums, sum_along
from interruptruns.waiting import Watch, names_of_kind, rows_of, waits_along


def is_event(program, value):
    """Return whether the value is an event pattern for the program."""
    if not isinstance(value, tuple) or len(value) != 2:
        return False
    kind, name = value
    if not isinstance(kind, str) or not isinstance(name, str):
        return False
    return name in names_of_kind(program, kind)


def is_question(program, value):
    """Return whether the value is a question for the program."""
    if isinstance(value, str):
        return value in program.names
    if not isinstance(value, tuple) or len(value) != 2:
        return False
    return is_event(program, value[0]) and is_event(program, value[1])


def check_event(program, pattern):
    """Raise InvalidEvent unless the value is an event pattern for the program."""
    if not is_event(program, pattern):
        raise InvalidEvent(pattern)


def check_question(program, question):
    """Raise InvalidEvent unless the value is a question for the program."""
    if not is_question(program, question):
        raise InvalidEvent(question)


class Longest:
    """What is known about the greatest time of a wait."""

    def __init__(self, ticks, choices, ring, table):
        self.parts = (ticks, choices, ring, table)

    @property
    def ticks(self):
        """The greatest time, or None if there are waits without an end."""
        return self.parts[0]

    @property
    def choices(self):
        """The list of the choices of a run in which such a wait ends, or goes on for ever."""
        return list(self.parts[1])

    @property
    def ring(self):
        """The list of the choices that can be repeated while a wait goes on, or None."""
        ring = self.parts[2]
        return None if ring is None else list(ring)

    @property
    def table(self):
        """The dict from all pairs to the greatest numbers of ticks, or None."""
        table = self.parts[3]
        return None if table is None else {pair: table[pair] for pair in table}

    def __eq__(self, other):
        return isinstance(other, Longest) and self.parts == other.parts


def longest(machine, question, limit=LIMIT):
    """Return what is known about the greatest time of a wait in any run."""
    check_question(machine.program, question)
    check_limit(limit)
    pairs = Pairs(machine, question, limit)
    times = greatest_sums(pairs.edges)
    if None in times:
        return endless(pairs, times)
    return ending(pairs, times)


def ending(pairs, times):
    """Return what is known if all waits have an end."""
    rows = pairs.known.rows
    best = 0
    for at, time in enumerate(times):
        if rows[at][1] is None and pairs.edges[at]:
            if time > times[best] or not pairs.edges[best]:
                best = at
    choices = way_to(pairs.origins, best) if pairs.edges[best] else []
    choices.extend(greatest_way(pairs.edges, times, best))
    texts = [state_text(parts) for parts in pairs.reached.rows]
    table = {}
    for (state, ahead), time in zip(rows, times):
        table[texts[state], ahead] = 0 if ahead is None else time
    return Longest(times[best], choices, None, table)


def greatest_way(edges, times, at):
    """Return the list of the choices along a way that has the greatest sum from a point on."""
    choices = []
    while at is not None and edges[at]:
        best = [edge for edge in edges[at] if sum_along(edge, times) == times[at]][0]
        choices.append(best[2])
        at = best[1]
    return choices


def endless(pairs, times):
    """Return what is known if there are waits without an end."""
    rows = pairs.known.rows
    lasting = [to for to, time in enumerate(times) if time is None and rows[to][1] is not None]
    at = lasting[0]
    places = {}
    choices = []
    # From a wait without an end a step leads to one without an end.
    while at not in places:
        places[at] = len(choices)
        best = [edge for edge in pairs.edges[at] if edge[1] is not None and times[edge[1]] is None][0]
        choices.append(best[2])
        at = best[1]
    return Longest(None, way_to(pairs.origins, at), choices[places[at]:], None)


def waits(run, question):
    """Return the sorted list of the moments (begin, end) of each wait of a run that has ended."""
    program = run.machine.program
    check_question(program, question)
    ended, going = waits_along(Watch(program, question), rows_of(run))
    return sorted(ended)

"""Logs of runs: which runs fit a log, and what can be there behind it."""

from interruptruns.errors import InvalidLog, InvalidNumber
from interruptruns.fitting import Tracks, first_choices
from interruptruns.longest import check_question
from interruptruns.machine import MOST_TICKS
from interruptruns.numbered import Numbered
from interruptruns.pairs import Pairs
from interruptruns.reach import LIMIT, check_limit
from interruptruns.sights import PairSight, StateSight
from interruptruns.sums import greatest_sums
from interruptruns.values import is_between, is_count, is_name
from interruptruns.waiting import EVENT_KINDS

OFFSETS = (0, 1)


def log_of(run, kinds):
    """Return the log of a run, which has the events of these kinds."""
    check_kinds(kinds)
    return [event for event in run.events if event[1] in kinds]


def fit(machine, log, ticks, kinds):
    """Return the choices of the first run of this length that fits a log.

    If there is none, return the index of the first entry up to which no run has
    the log, or the length of the log if only further entries are wrong.
    """
    check_log(log, ticks, kinds)
    known = Numbered(machine.start.parts)
    tracks = Tracks(StateSight(machine.program, known, kinds), log)
    layers, most = tracks.follow(ticks)
    goal = tracks.whole(layers[-1], ticks)
    return first_choices(tracks, layers, goal) if goal else most


def worst_after(machine, log, ticks, kinds, question, limit=LIMIT):
    """Return the greatest number of ticks until the end of a wait behind a run that fits a log.

    Return None if there is no greatest number, or no run that fits.
    """
    check_log(log, ticks, kinds)
    check_question(machine.program, question)
    check_limit(limit)
    pairs = Pairs(machine, question, limit)
    tracks = Tracks(PairSight(pairs, kinds), log)
    layers, most = tracks.follow(ticks)
    goal = tracks.whole(layers[-1], ticks)
    if not goal:
        return None
    sums = greatest_sums(pairs.edges)
    times = [sums[at] for used, points in goal for at in points if pairs.known.rows[at][1] is not None]
    return None if None in times else max(times, default=0)


class Monitor:
    """Watches a run by its events of some kinds."""

    def __init__(self, machine, kinds):
        check_kinds(kinds)
        self.kinds = kinds
        self.sight = StateSight(machine.program, Numbered(machine.start.parts), kinds)
        self.here = (0,)

    def __call__(self, events):
        """Go on by a tick with these events, and return whether some run has all that was given."""
        if not isinstance(events, list) or not all([is_told(one, self.kinds) for one in events]):
            raise InvalidLog(events)
        given = tuple(events)
        found = {}
        for at in self.here:
            for choice, seen, behind in self.sight.moves_from(at):
                if seen == given:
                    found[behind[0]] = True
        self.here = tuple(sorted(found))
        return len(found) > 0

    @property
    def possible(self):
        """The number of different states that can be there now."""
        return len(self.here)

    def reset(self):
        """Begin anew."""
        self.here = (0,)


def check_kinds(kinds):
    """Raise InvalidLog unless the value is a tuple of different kinds of events."""
    if not isinstance(kinds, tuple):
        raise InvalidLog(kinds)
    if not all([isinstance(kind, str) and kind in EVENT_KINDS for kind in kinds]):
        raise InvalidLog(kinds)
    if not all([kinds.count(kind) == 1 for kind in kinds]):
        raise InvalidLog(kinds)


def check_log(log, ticks, kinds):
    """Raise InvalidLog unless the values are kinds and a log, then InvalidNumber unless it is a length."""
    check_kinds(kinds)
    if not isinstance(log, list) or not all([is_entry(one, kinds) for one in log]):
        raise InvalidLog(log)
    moments = [moment for moment, kind, name in log]
    if not all([first <= second for first, second in zip(moments, moments[1:])]):
        raise InvalidLog(log)
    if not is_between(ticks, 0, MOST_TICKS):
        raise InvalidNumber(ticks)


def is_entry(value, kinds):
    """Return whether the value is an entry of a log: a tuple of a count, one of the kinds, and a name."""
    if not isinstance(value, tuple) or len(value) != 3:
        return False
    moment, kind, name = value
    return is_count(moment) and isinstance(kind, str) and kind in kinds and is_name(name)


def is_told(value, kinds):
    """Return whether the value is an event of one tick: a tuple of an offset, one of the kinds, and a name."""
    # Every offset could be a moment, too, but only these moments are offsets.
    return is_entry(value, kinds) and value[0] in OFFSETS

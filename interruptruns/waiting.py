"""Event patterns, and waits in the events of ticks."""

ASKED = ("request", "early", "timer", "raise")
SOURCE_KINDS = ("request", "early", "timer", "raise", "lost", "enter", "leave", "answer", "asked")
TASK_KINDS = ("post", "full", "begin", "end")
EVENT_KINDS = (
    "request", "early", "timer", "raise", "lost", "enter", "leave", "answer",
    "post", "full", "begin", "end", "over",
)


def names_of_kind(program, kind):
    """Return the list of the names that events of a kind can have."""
    if kind in SOURCE_KINDS:
        return list(program.names)
    if kind in TASK_KINDS:
        return [name for name, body in program.tasks]
    return list(program.bodies) if kind == "over" else []


def fits(event, pattern):
    """Return whether an event (offset, kind, name) fits a pattern."""
    kind, name = pattern
    return event[2] == name and (event[1] == kind or kind == "asked" and event[1] in ASKED)


class Watch:
    """What has to be known of a question to see its waits."""

    def __init__(self, program, question):
        # The place of the source if the question is its name.
        self.place = None
        if isinstance(question, str):
            self.place = program.order[question]
            self.opening = ("asked", question)
            self.closing = ("answer", question)
        else:
            self.opening, self.closing = question

    def seen(self, parts, events):
        """Return what a tick from a state with these parts does to waits.

        This is a tuple of the offsets of the events that waits under way have to
        follow, and a tuple of (offset of the beginning, offset of the end or None,
        number ahead or None) for the waits that begin.
        """
        ends = [at for at, event in enumerate(events) if fits(event, self.closing)]
        begun = []
        owed = 0 if self.place is None else parts[2][self.place]
        for at, event in enumerate(events):
            if self.begins(events, at):
                later = [events[end][0] for end in ends if end > at]
                begun.append((event[0], *self.follow(later, 0 if self.place is None else owed)))
                owed += 1
            elif at in ends:
                owed = max(owed - 1, 0)
        return tuple([events[at][0] for at in ends]), tuple(begun)

    def begins(self, events, at):
        """Return whether a wait begins with an event."""
        if not fits(events[at], self.opening):
            return False
        if self.place is None or at + 1 == len(events):
            return True
        return events[at + 1][1:] != ("lost", self.closing[1])

    def waits_of(self, ahead, ends, begun):
        """Return the list of what a tick does to the waits of a pair with this number ahead.

        These are tuples (offset from which on it counts, offset of the end or
        None, number ahead or None) for the wait, or for all that begin there.
        """
        return list(begun) if ahead is None else [(0, *self.follow(ends, ahead))]

    def follow(self, ends, ahead):
        """Return the offset of the end of a wait, None if it goes on, and then its number ahead.

        The ends are the offsets of the events that it has to follow.
        """
        if self.place is None:
            return (ends[0], None) if ends else (None, ahead)
        return (ends[ahead], None) if ahead < len(ends) else (None, ahead - len(ends))


def waits_along(watch, rows):
    """Return the lists of the waits that have ended, and of those that are under way.

    The rows are, for each tick, the parts of the state ahead of it and its
    events. A wait that has ended is a tuple of its two moments, one under way a
    tuple of the moment of its beginning and its number ahead.
    """
    ended = []
    going = []
    for at, (parts, events) in enumerate(rows):
        ends, begun = watch.seen(parts, events)
        told = [(begin, *watch.follow(ends, ahead)) for begin, ahead in going]
        told.extend([(at + offset, end, ahead) for offset, end, ahead in begun])
        ended.extend([(begin, at + end) for begin, end, ahead in told if end is not None])
        going = [(begin, ahead) for begin, end, ahead in told if end is None]
    return ended, going


def rows_of(run):
    """Return the list of the parts of the state ahead of each tick of a run, and its events."""
    machine, steps = run.parts
    return [(state.parts, step.events) for state, step in zip(run.states, steps)]

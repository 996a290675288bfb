"""Changes of programs: an editor, and what they change."""

from interruptruns.errors import InvalidProgram, NothingToRedo, NothingToUndo
from interruptruns.longest import longest
from interruptruns.machine import Machine
from interruptruns.pairs import Pairs
from interruptruns.programs import BACKGROUND, Program, check_known
from interruptruns.reach import LIMIT, check_limit
from interruptruns.states import are_parts, state_text
from interruptruns.sums import greatest_sums, points_ahead
from interruptruns.ticks import all_ticks


class Trial:
    """Changes that are taken back at the end of a block, unless they are accepted."""

    def __init__(self, editor):
        self.editor = editor
        self.past = ()
        self.present = None
        self.future = ()
        self.accepted = None

    def __enter__(self):
        self.past = self.editor.past
        self.present = self.editor.present
        self.future = self.editor.future
        return self

    def __exit__(self, kind, value, trace):
        if self.accepted is None or kind is not None:
            self.editor.past = self.past
            self.editor.present = self.present
            self.editor.future = self.future
        else:
            self.editor.past = self.past + (self.present,)
            self.editor.future = ()

    def accept(self):
        """Let the program at the end of the block be put in place."""
        self.accepted = True


class Editor:
    """A program that is changed step by step."""

    def __init__(self, program):
        # What was before, and what was taken back, the nearest one last.
        self.past = ()
        self.present = program
        self.future = ()

    @property
    def program(self):
        """The present program."""
        return self.present

    def replace(self, name, body):
        """Put the program with another body of this name in place."""
        program = self.present.replaced(name, body)
        self.past = (*self.past, self.present)
        self.present = program
        self.future = ()

    def undo(self):
        """Take the last change back."""
        if not self.past:
            raise NothingToUndo()
        self.future = (*self.future, self.present)
        self.present = self.past[-1]
        self.past = self.past[:-1]

    def redo(self):
        """Do the change again that was taken back last."""
        if not self.future:
            raise NothingToRedo()
        self.past = (*self.past, self.present)
        self.present = self.future[-1]
        self.future = self.future[:-1]

    def trial(self):
        """Return a trial for a `with` block, with the method accept."""
        return Trial(self)

    def attempt(self, changes, accept=True):
        """Perform all changes (name, body), if accept is True, or none if one is refused."""
        if not are_changes(changes):
            raise InvalidProgram(changes)
        with self.trial() as held:
            for name, body in changes:
                self.replace(name, body)
            if accept is True:
                held.accept()


def are_changes(value):
    """Return whether the value is a list or tuple of tuples of two things."""
    if not isinstance(value, (list, tuple)):
        return False
    return all([isinstance(one, tuple) and len(one) == 2 for one in value])


def changed(first, second):
    """Return the tuple of the names whose bodies differ."""
    check_same(first, second)
    names = [*first.names, *[name for name, body in first.tasks], BACKGROUND]
    return tuple([name for name in names if first.bodies[name] != second.bodies[name]])


def check_same(first, second):
    """Raise InvalidProgram unless everything but the bodies is the same in both programs."""
    if not isinstance(second, Program) or without_bodies(first) != without_bodies(second):
        raise InvalidProgram(second)


def without_bodies(program):
    """Return all of a program but its bodies."""
    sources = [
        (one.name, one.level, one.gap, one.keep, one.enter, one.leave) for one in program.sources
    ]
    return sources, [name for name, body in program.tasks], program.counters


def grown(first, second, limit=LIMIT):
    """Return the list of (name, before, after) of the sources whose longest times are greater."""
    check_same(first, second)
    found = []
    for name in first.names:
        before = longest(Machine(first), name, limit).ticks
        after = longest(Machine(second), name, limit).ticks
        if before is not None and (after is None or after > before):
            found.append((name, before, after))
    return found


def kept(first, second, name, limit=LIMIT):
    """Return the part of the table of a source that is right for the second program, too.

    It has the pairs with a wait from which all that can come until its end is the same.
    """
    check_same(first, second)
    check_known(name, first.names)
    check_limit(limit)
    pairs = Pairs(Machine(first), name, limit)
    times = greatest_sums(pairs.edges)
    if None in times:
        return {}
    rows = pairs.reached.rows
    same = [has_same_steps(first, second, parts) for parts in rows]
    inside = [ahead is not None and same[state] for state, ahead in pairs.known.rows]
    left = without_ways_out(pairs.edges, inside)
    table = {}
    for at, (state, ahead) in enumerate(pairs.known.rows):
        if left[at]:
            table[state_text(rows[state]), ahead] = times[at]
    return table


def has_same_steps(first, second, parts):
    """Return whether a state of the first program is one of the second, with the same steps."""
    if not are_parts(second, parts):
        return False
    # Depth and height are no part of what has to be the same.
    steps = [told[:3] for told in all_ticks(first, parts)]
    return steps == [told[:3] for told in all_ticks(second, parts)]


def without_ways_out(edges, inside):
    """Return which points are left if those are taken out from which an edge leads out.

    Both are lists that tell of each point whether it is inside.
    """
    left = list(inside)
    ahead = points_ahead(edges)
    missing = [at for at, there in enumerate(left) if not there]
    while missing:
        out = missing.pop()
        for at in ahead[out]:
            if left[at]:
                left[at] = False
                missing.append(at)
    return left

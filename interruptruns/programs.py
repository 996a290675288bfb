"""Bodies, sources of requests, and programs."""

from interruptruns.errors import InvalidBody, InvalidName, InvalidNumber, InvalidProgram
from interruptruns.places import flat_body
from interruptruns.statements import FORMS, all_statements, tick_bounds
from interruptruns.values import is_between, is_name

MOST_BRANCHES = 6
MOST_SOURCES = 4
MOST_TASKS = 3
MOST_COUNTERS = 3
BACKGROUND = "main"


def is_body(value):
    """Return whether the value is a body."""
    found = all_statements(value)
    if found is None:
        return False
    branches = [one for one in found if one[0] in ("either", "loop")]
    passes = [one[2] for one in found if one[0] == "loop"]
    return len(branches) <= MOST_BRANCHES and all([uses_ticks(body) for body in passes])


def least_ticks(body):
    """Return the least number of ticks of a body, over all ways."""
    if not is_body(body):
        raise InvalidBody(body)
    return tick_bounds(body)[0]


def most_ticks(body):
    """Return the greatest number of ticks of a body, over all ways."""
    if not is_body(body):
        raise InvalidBody(body)
    return tick_bounds(body)[1]


def uses_ticks(body):
    """Return whether a body uses at least one tick on every way."""
    return tick_bounds(body)[0] >= 1


class Source:
    """A source of requests, with its handler."""

    def __init__(self, name, level, gap, body, *, keep=1, enter=0, leave=0):
        if not is_name(name):
            raise InvalidName(name)
        bounds = ((level, 1, 9), (gap, 1, 50), (keep, 1, 3), (enter, 0, 5), (leave, 0, 5))
        for number, least, most in bounds:
            if not is_between(number, least, most):
                raise InvalidNumber(number)
        if not is_body(body) or enter + tick_bounds(body)[0] + leave == 0:
            raise InvalidBody(body)
        self.parts = (name, level, gap, body, keep, enter, leave)

    @property
    def name(self):
        """The name of the source."""
        return self.parts[0]

    @property
    def level(self):
        """The level of the handler."""
        return self.parts[1]

    @property
    def gap(self):
        """The least number of ticks between two requests."""
        return self.parts[2]

    @property
    def body(self):
        """The body of the handler."""
        return self.parts[3]

    @property
    def keep(self):
        """The number of requests that are kept."""
        return self.parts[4]

    @property
    def enter(self):
        """The number of ticks that entering the handler takes."""
        return self.parts[5]

    @property
    def leave(self):
        """The number of ticks that leaving the handler takes."""
        return self.parts[6]

    def __eq__(self, other):
        return isinstance(other, Source) and self.parts == other.parts


class Program:
    """Sources with their handlers, tasks, counters, and a background."""

    def __init__(self, sources, background, *, tasks=(), counters=()):
        check_forms(sources, background, tasks, counters)
        names = {
            "source": tuple([source.name for source in sources]),
            "task": tuple([name for name, body in tasks]),
            "counter": tuple([name for name, most in counters]),
        }
        check_names(names["source"] + names["task"] + names["counter"])
        bodies = {source.name: source.body for source in sources}
        for name, body in tasks:
            bodies[name] = body
        bodies[BACKGROUND] = background
        check_uses(list(bodies.values()), names)
        self.parts = (tuple(sources), background, tuple(tasks), tuple(counters))
        self.source_names = names["source"]
        self.bodies = bodies
        # What every tick needs is found out once.
        self.flat = {name: flat_body(bodies[name]) for name in bodies}
        self.levels = {source.name: source.level for source in sources}
        self.order = {name: at for part in ("source", "counter") for at, name in enumerate(names[part])}
        self.edges = edge_ticks(sources)

    @property
    def sources(self):
        """The tuple of the sources."""
        return self.parts[0]

    @property
    def background(self):
        """The body of the background."""
        return self.parts[1]

    @property
    def tasks(self):
        """The tuple of the tasks, tuples (name, body)."""
        return self.parts[2]

    @property
    def counters(self):
        """The tuple of the counters, tuples (name, most)."""
        return self.parts[3]

    @property
    def names(self):
        """The tuple of the names of the sources."""
        return self.source_names

    def __eq__(self, other):
        return isinstance(other, Program) and self.parts == other.parts

    def body_of(self, name):
        """Return the body of a source, a task, or the background."""
        check_known(name, list(self.bodies))
        return self.bodies[name]

    def source_of(self, name):
        """Return the source of this name."""
        check_known(name, self.source_names)
        return self.sources[self.source_names.index(name)]

    def replaced(self, name, body):
        """Return the program with another body of a source, a task, or the background."""
        check_known(name, list(self.bodies))
        if not is_body(body):
            raise InvalidBody(body)
        sources = [with_body(one, body) if one.name == name else one for one in self.sources]
        tasks = [(task, body if task == name else old) for task, old in self.tasks]
        background = body if name == BACKGROUND else self.background
        return Program(tuple(sources), background, tasks=tuple(tasks), counters=self.counters)


def check_known(name, names):
    """Raise InvalidName unless the name is one of the names."""
    if not is_name(name) or name not in names:
        raise InvalidName(name)


def edge_ticks(sources):
    """Return the dict from the names and places of sources beside their bodies to the ticks there."""
    found = {}
    for source in sources:
        found[source.name, "in"] = source.enter
        found[source.name, "out"] = source.leave
    return found


def with_body(source, body):
    """Return the source with another body."""
    return Source(source.name, source.level, source.gap, body,
                  keep=source.keep, enter=source.enter, leave=source.leave)


def check_forms(sources, background, tasks, counters):
    """Raise InvalidProgram with the first argument that is wrong by itself."""
    if not are_sources(sources):
        raise InvalidProgram(sources)
    if not is_body(background) or not uses_ticks(background):
        raise InvalidProgram(background)
    if not are_tasks(tasks):
        raise InvalidProgram(tasks)
    if not are_counters(counters):
        raise InvalidProgram(counters)


def are_sources(value):
    """Return whether the value can be the sources of a program."""
    if not isinstance(value, (list, tuple)) or not 1 <= len(value) <= MOST_SOURCES:
        return False
    return all([isinstance(one, Source) for one in value])


def are_tasks(value):
    """Return whether the value can be the tasks of a program."""
    if not isinstance(value, (list, tuple)) or len(value) > MOST_TASKS:
        return False
    return all([is_named(one) and is_body(one[1]) and uses_ticks(one[1]) for one in value])


def are_counters(value):
    """Return whether the value can be the counters of a program."""
    if not isinstance(value, (list, tuple)) or len(value) > MOST_COUNTERS:
        return False
    return all([is_named(one) and is_between(one[1], 1, 5) for one in value])


def is_named(value):
    """Return whether the value is a tuple of a name and something else."""
    return isinstance(value, tuple) and len(value) == 2 and is_name(value[0])


def check_names(names):
    """Raise InvalidProgram with the first name that is taken already."""
    taken = [BACKGROUND]
    for name in names:
        if name in taken:
            raise InvalidProgram(name)
        taken.append(name)


def check_uses(bodies, names):
    """Raise InvalidProgram with the first body that has a wrong name.

    The names are a dict from the forms of parts to the names that fit there.
    """
    for body in bodies:
        for statement in all_statements(body):
            for form, part in zip(FORMS[statement[0]], statement[1:]):
                if form in names and part not in names[form]:
                    raise InvalidProgram(body)

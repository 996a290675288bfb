"""Short ways to write small programs, machines and choices in tests."""

from interruptruns.formats import parse_program
from interruptruns.machine import Machine

NOTHING = ((), False, ())


def written(text):
    """Return the program whose lines are separated by `; `."""
    return parse_program(text.replace("; ", "\n"))


def source(name, level, gap, body, keep=1, enter=0, leave=0):
    """Return the lines of a source, its statements separated by `; `."""
    first = f"source {name} level {level} gap {gap} keep {keep} enter {enter} leave {leave}"
    return lines(first, body)


def task(name, body):
    return lines(f"task {name}", body)


def background(body):
    return lines("background", body)


def lines(first, body):
    return "; ".join([first, body, "end"] if body else [first, "end"])


def program_of(*parts):
    """Return the program of these parts; a single `run 1` is the background if there is none."""
    if not parts[-1].startswith("background"):
        parts = [*parts, background("run 1")]
    return written("; ".join(parts))


def machine_of(*parts, overruns=0, early=0):
    return Machine(program_of(*parts), overruns=overruns, early=early)


def choice(requests="", over=False, ways=""):
    """Return a choice: the names in one text, and the ways as a text of 0 and 1."""
    return tuple(requests.split()), over, tuple(way == "1" for way in ways)


def go(machine, *choices):
    """Return the steps of a machine by these choices; a text is only the requests."""
    state, steps = machine.start, []
    for one in choices:
        one = choice(one) if isinstance(one, str) else one
        steps.append(machine.step(state, one))
        state = steps[-1].state
    return steps


def events(machine, *choices):
    """Return the events of the last tick, as a text for each."""
    return [f"{offset} {kind} {name}" for offset, kind, name in go(machine, *choices)[-1].events]


def last(machine, *choices):
    """Return the last state."""
    return go(machine, *choices)[-1].state if choices else machine.start

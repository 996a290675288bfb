"""Runs of machines."""

from interruptruns.errors import InvalidChoice, InvalidNumber
from interruptruns.machine import MOST_TICKS
from interruptruns.values import is_between


class Run:
    """A run of a machine from its first state on."""

    def __init__(self, machine, choices):
        self.parts = (machine, steps_along(machine, machine.start, choices))

    @property
    def machine(self):
        """The machine."""
        return self.parts[0]

    @property
    def choices(self):
        """The tuple of the choices."""
        return tuple([step.choice for step in self.parts[1]])

    @property
    def states(self):
        """The list of all states, the first one included."""
        machine, steps = self.parts
        return [machine.start] + [step.state for step in steps]

    @property
    def events(self):
        """The list of all events, tuples (moment, kind, name)."""
        return [
            (at + offset, kind, name)
            for at, step in enumerate(self.parts[1])
            for offset, kind, name in step.events
        ]

    @property
    def last(self):
        """The last state."""
        machine, steps = self.parts
        return steps[-1].state if steps else machine.start

    def __len__(self):
        return len(self.parts[1])

    def __eq__(self, other):
        return (
            isinstance(other, Run)
            and self.machine == other.machine
            and self.choices == other.choices
        )

    def more(self, choices):
        """Return the run that goes on with these choices."""
        machine, steps = self.parts
        return run_along(machine, (*steps, *steps_along(machine, self.last, choices)))


def steps_along(machine, state, choices):
    """Return the tuple of the steps from a state on by these choices."""
    if not isinstance(choices, (list, tuple)):
        raise InvalidChoice(choices)
    steps = []
    for choice in choices:
        steps.append(machine.step(state, choice))
        state = steps[-1].state
    return tuple(steps)


def run_along(machine, steps):
    """Return the run with these steps, which are known to be possible."""
    run = Run(machine, ())
    run.parts = (machine, tuple(steps))
    return run


def runs(machine, ticks):
    """Give all runs of this length, in list order of their choices."""
    if not is_between(ticks, 0, MOST_TICKS):
        raise InvalidNumber(ticks)
    known = {}
    path = []
    untaken = []
    state = machine.start
    while True:
        while len(path) < ticks:
            others = steps_backwards(machine, state, known)
            path.append(others.pop())
            untaken.append(others)
            state = path[-1].state
        yield run_along(machine, path)
        while untaken and not untaken[-1]:
            untaken.pop()
            path.pop()
        if not untaken:
            return
        path[-1] = untaken[-1].pop()
        state = path[-1].state


def steps_backwards(machine, state, known):
    """Return the list of the steps from a state, the last one first.

    The dict keeps those that were already sought, since runs come to the same
    states again and again.
    """
    if state.parts not in known:
        known[state.parts] = machine.steps(state)
    return known[state.parts][::-1]

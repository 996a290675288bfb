"""Machines, which use the ticks of a program one by one."""

from interruptruns.errors import InvalidChoice, InvalidNumber, InvalidState
from interruptruns.numbered import Numbered
from interruptruns.states import State, is_state
from interruptruns.ticks import all_ticks, first_parts, one_tick, possible_requests
from interruptruns.values import is_between

MOST_FAULTS = 3
MOST_TICKS = 1000


class Step:
    """What one tick does."""

    def __init__(self, choice, parts, events, depth, height):
        self.parts = (choice, State(*parts), events, depth, height)

    @property
    def choice(self):
        """The choice of the tick."""
        return self.parts[0]

    @property
    def state(self):
        """The state behind the tick."""
        return self.parts[1]

    @property
    def events(self):
        """The list of the events, tuples (offset, kind, name)."""
        return list(self.parts[2])

    @property
    def depth(self):
        """The number of frames when the tick is used."""
        return self.parts[3]

    @property
    def height(self):
        """The running level when the tick is used."""
        return self.parts[4]

    def __eq__(self, other):
        return isinstance(other, Step) and self.parts == other.parts


class Machine:
    """A program with numbers of overruns and of early requests that may come."""

    def __init__(self, program, *, overruns=0, early=0):
        for number in (overruns, early):
            if not is_between(number, 0, MOST_FAULTS):
                raise InvalidNumber(number)
        first = first_parts(program, (overruns, early))
        self.parts = (program, overruns, early, State(*first))

    @property
    def program(self):
        """The program."""
        return self.parts[0]

    @property
    def overruns(self):
        """The number of overruns that may come."""
        return self.parts[1]

    @property
    def early(self):
        """The number of early requests that may come."""
        return self.parts[2]

    @property
    def start(self):
        """The first state."""
        return self.parts[3]

    def __eq__(self, other):
        return isinstance(other, Machine) and self.parts == other.parts

    def steps(self, state):
        """Return the list of the steps for all possible choices, sorted by these."""
        if not is_state(self.program, state):
            raise InvalidState(state)
        return [Step(*told) for told in all_ticks(self.program, state.parts)]

    def step(self, state, choice):
        """Return the step for a choice."""
        if not is_state(self.program, state):
            raise InvalidState(state)
        if not can_request(self.program, state, choice):
            raise InvalidChoice(choice)
        requests, over, ways = choice
        taken, told = one_tick(self.program, state.parts, requests, over, ways)
        if told is None or taken[2] != ways:
            raise InvalidChoice(choice)
        return Step(taken, *told)

    def after(self, ticks):
        """Return the list of the states that can be there after so many ticks, sorted by texts."""
        if not is_between(ticks, 0, MOST_TICKS):
            raise InvalidNumber(ticks)
        return sorted_states(parts_after(self, ticks))


def can_request(program, state, choice):
    """Return whether the value has the form of a choice, with requests that are possible."""
    if not isinstance(choice, tuple) or len(choice) != 3:
        return False
    requests, over, ways = choice
    if not isinstance(requests, tuple) or not isinstance(over, bool) or not isinstance(ways, tuple):
        return False
    if not all([isinstance(name, str) for name in requests]):
        return False
    if not all([isinstance(way, bool) for way in ways]):
        return False
    return requests in possible_requests(program, state.parts)


def parts_after(machine, ticks):
    """Return the list of the parts of the states that can be there after so many ticks."""
    known = Numbered(machine.start.parts)
    following = {}
    here = [0]
    mark = here
    since = 0
    span = 1
    while ticks > 0:
        for at in here:
            if at not in following:
                following[at] = numbers_behind(machine.program, known, at)
        here = sorted({to for at in here for to in following[at]})
        ticks -= 1
        since += 1
        # The same states come again soon. What lies between is not gone through
        # once more, and only one list is kept to see this.
        if here == mark:
            ticks %= since
        elif since == span:
            mark = here
            since = 0
            span *= 2
    return [known.rows[at] for at in here]


def numbers_behind(program, known, at):
    """Return the list of the numbers of the states behind one."""
    found = all_ticks(program, known.rows[at])
    return [known.number_of(told[1]) for told in found]


def sorted_states(rows):
    """Return the list of the states with these parts, sorted by their texts."""
    return sorted([State(*parts) for parts in rows], key=lambda state: state.text)

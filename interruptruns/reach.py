"""All states that can be there."""

from interruptruns.errors import InvalidNumber, InvalidState, TooMany
from interruptruns.machine import sorted_states
from interruptruns.numbered import Numbered
from interruptruns.states import is_state
from interruptruns.ticks import all_ticks
from interruptruns.values import is_between

LIMIT = 5000
MOST_LIMIT = 100000


def check_limit(limit):
    """Raise InvalidNumber unless the value can be a limit."""
    if not is_between(limit, 1, MOST_LIMIT):
        raise InvalidNumber(limit)


class Reach:
    """All states that can be there after any number of ticks."""

    def __init__(self, machine, limit=LIMIT):
        check_limit(limit)
        self.plan = machine.program
        self.known = Numbered(machine.start.parts)
        # For each state the number of the one ahead of it, and the choice there,
        # on the first one of the shortest ways: the states are found in the order
        # of these ways, since those ahead of them are gone through in this order.
        self.origins = [None]
        at = 0
        while at < len(self.known.rows):
            found = all_ticks(self.plan, self.known.rows[at])
            for choice, parts, events, depth, height in found:
                if self.known.number_of(parts) == len(self.origins):
                    self.origins.append((at, choice))
            if len(self.known.rows) > limit:
                raise TooMany(limit)
            at += 1

    def __len__(self):
        return len(self.known.rows)

    def __contains__(self, state):
        return is_state(self.plan, state) and state.parts in self.known.numbers

    def walk(self):
        """Give the states, sorted by their texts."""
        for state in sorted_states(self.known.rows):
            yield state

    def way(self, state):
        """Return the first one of the shortest lists of choices that lead to a state."""
        if state not in self:
            raise InvalidState(state)
        return way_to(self.origins, self.known.numbers[state.parts])


def way_to(origins, at):
    """Return the list of the choices on the way to a number.

    The origins have, for each number, the one ahead of it and the choice there.
    """
    choices = []
    while origins[at] is not None:
        at, choice = origins[at]
        choices.append(choice)
    return choices[::-1]


def is_closed(machine, value):
    """Return whether the value is a list or tuple of states that no step leads out of.

    The first state has to be one of them.
    """
    if not isinstance(value, (list, tuple)):
        return False
    if not all([is_state(machine.program, state) for state in value]):
        return False
    rows = {state.parts: True for state in value}
    if machine.start.parts not in rows:
        return False
    for parts in rows:
        if not all([told[1] in rows for told in all_ticks(machine.program, parts)]):
            return False
    return True

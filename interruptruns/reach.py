"""All states that can be there."""

from interruptruns.errors import InvalidNumber, InvalidState, TooMany
from interruptruns.machine import sorted_states
from interruptruns.numbered import Numbered
from interruptruns.states import is_state
from interruptruns.ticks import all_ticks
from interruptruns.values import is_between

LIMIT = 5000
MOST_LIMIT = 100000


def check_limit(limit):
    """Raise InvalidNumber unless the value can be a limit."""
    if not is_between(limit, 1, MOST_LIMIT):
        raise InvalidNumber(limit)


class Search:
    """All states that can be there, found one after another.

    They are found in the order of the first ones of the shortest ways to them,
    since those ahead of them are gone through in this order. Each one has the
    number of the one ahead of it on this way, and the choice there.
    """

    def __init__(self, machine, limit):
        check_limit(limit)
        self.plan = machine.program
        self.most = limit
        self.known = Numbered(machine.start.parts)
        self.origins = [None]
        self.at = 0

    def has_more(self):
        """Return whether there is a state that was not gone through."""
        return self.at < len(self.known.rows)

    def next_ticks(self):
        """Go through the next state, which is the one at, and return its ticks.

        They are a list of (choice, number of the state behind, events, depth, height).
        """
        found = []
        for choice, parts, events, depth, height in all_ticks(self.plan, self.known.rows[self.at]):
            to = self.known.number_of(parts)
            if to == len(self.origins):
                self.origins.append((self.at, choice))
            found.append((choice, to, events, depth, height))
        if len(self.known.rows) > self.most:
            raise TooMany(self.most)
        self.at += 1
        return found

    def way_of(self, at):
        """Return the list of the choices on the first one of the shortest ways to a state."""
        return way_to(self.origins, at)


class Reach:
    """All states that can be there after any number of ticks."""

    def __init__(self, machine, limit=LIMIT):
        self.search = Search(machine, limit)
        while self.search.has_more():
            self.search.next_ticks()

    def __len__(self):
        return len(self.search.known.rows)

    def __contains__(self, state):
        return is_state(self.search.plan, state) and state.parts in self.search.known.numbers

    def walk(self):
        """Give the states, sorted by their texts."""
        for state in sorted_states(self.search.known.rows):
            yield state

    def way(self, state):
        """Return the first one of the shortest lists of choices that lead to a state."""
        if state not in self:
            raise InvalidState(state)
        return self.search.way_of(self.search.known.numbers[state.parts])


def way_to(origins, at):
    """Return the list of the choices on the way to a number.

    The origins have, for each number, the one ahead of it and the choice there.
    """
    choices = []
    while origins[at] is not None:
        at, choice = origins[at]
        choices.append(choice)
    return choices[::-1]


def is_closed(machine, value):
    """Return whether the value is a list or tuple of states that no step leads out of.

    The first state has to be one of them.
    """
    if not isinstance(value, (list, tuple)):
        return False
    if not all([is_state(machine.program, state) for state in value]):
        return False
    rows = {state.parts: True for state in value}
    if machine.start.parts not in rows:
        return False
    for parts in rows:
        if not all([told[1] in rows for told in all_ticks(machine.program, parts)]):
            return False
    return True

"""Pairs of states and waits that are under way there."""

from interruptruns.errors import TooMany
from interruptruns.numbered import Numbered
from interruptruns.ticks import all_ticks
from interruptruns.waiting import Watch


class Pairs:
    """All pairs that can be there, numbered in the order in which they are found.

    A pair is kept as the number of its state and the number ahead. For each one
    there are edges (gain, number of the pair behind or None, choice): of a pair
    without a wait for all waits that begin in its steps, and of another one for
    all of its steps. The gain is the time that the wait needs in this tick.
    """

    def __init__(self, machine, question, limit):
        self.plan = machine.program
        self.watch = Watch(machine.program, question)
        self.reached = Numbered(machine.start.parts)
        self.moves = {}
        self.known = Numbered((0, None))
        self.origins = [None]
        self.edges = []
        while len(self.edges) < len(self.known.rows):
            self.edges.append(self.edges_from(len(self.edges)))
            if len(self.known.rows) > limit:
                raise TooMany(limit)

    def moves_from(self, state):
        """Return the list of (choice, number of the state behind, ends, begun) of a state."""
        if state not in self.moves:
            parts = self.reached.rows[state]
            self.moves[state] = [
                (choice, self.reached.number_of(behind), *self.watch.seen(parts, events))
                for choice, behind, events, depth, height in all_ticks(self.plan, parts)
            ]
        return list(self.moves[state])

    def edges_from(self, at):
        """Return the list of the edges of a pair, and find the pairs behind it."""
        state, ahead = self.known.rows[at]
        edges = []
        for choice, to, ends, begun in self.moves_from(state):
            if ahead is None:
                self.put_pair((to, None), at, choice)
            for offset, end, behind in self.watch.waits_of(ahead, ends, begun):
                if end is None:
                    edges.append((1 - offset, self.put_pair((to, behind), at, choice), choice))
                else:
                    edges.append((end - offset, None, choice))
        return edges

    def put_pair(self, pair, origin, choice):
        """Return the number of a pair that a choice leads to."""
        at = self.known.number_of(pair)
        if at == len(self.origins):
            self.origins.append((origin, choice))
        return at


def pair_order(pair):
    """Return what tells the place of a pair (text, number ahead or None) in the order of pairs."""
    text, ahead = pair
    return text, -1 if ahead is None else ahead

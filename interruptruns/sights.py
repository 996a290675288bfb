"""What is seen of the steps of machines, if only events of some kinds are seen."""

from interruptruns.ticks import all_ticks


class StateSight:
    """The steps from states, which have their numbers in what is known."""

    def __init__(self, program, known, kinds):
        self.plan = program
        self.known = known
        self.kinds = kinds
        self.moves = {}

    def moves_from(self, at):
        """Return the list of (choice, events that are seen, numbers behind) of the steps from a state."""
        if at not in self.moves:
            self.moves[at] = [
                (choice, self.seen_of(events), (self.known.number_of(parts),))
                for choice, parts, events, depth, height in all_ticks(self.plan, self.known.rows[at])
            ]
        return list(self.moves[at])

    def seen_of(self, events):
        """Return the tuple of those of the events that are seen."""
        return tuple([event for event in events if event[1] in self.kinds])


class PairSight:
    """The steps from pairs, which have their numbers in all pairs that can be there.

    From a pair without a wait they also lead to the waits that begin.
    """

    def __init__(self, pairs, kinds):
        self.pairs = pairs
        self.below = StateSight(pairs.plan, pairs.reached, kinds)
        self.moves = {}

    def moves_from(self, at):
        """Return the list of (choice, events that are seen, numbers behind) of the steps from a pair."""
        if at not in self.moves:
            state, ahead = self.pairs.known.rows[at]
            seen = [told[1] for told in self.below.moves_from(state)]
            self.moves[at] = [
                (choice, events, self.numbers_behind(ahead, to, ends, begun))
                for events, (choice, to, ends, begun) in zip(seen, self.pairs.moves_from(state))
            ]
        return list(self.moves[at])

    def numbers_behind(self, ahead, to, ends, begun):
        """Return the tuple of the numbers of the pairs behind a step to a state."""
        waits = self.pairs.watch.waits_of(ahead, ends, begun)
        found = [(to, left) for offset, end, left in waits if end is None]
        if ahead is None:
            found.append((to, None))
        return tuple([self.pairs.known.numbers[pair] for pair in found])

"""States that can follow each other, with numbers."""

from interruptruns.ticks import all_ticks


class Numbered:
    """The parts of states, numbered in the order in which they are found."""

    def __init__(self, first):
        self.rows = [first]
        self.numbers = {first: 0}
        self.following = {}

    def number_of(self, parts):
        """Return the number of a state, which it gets now if it has none."""
        at = self.numbers.setdefault(parts, len(self.rows))
        if at == len(self.rows):
            self.rows.append(parts)
        return at

    def behind(self, program, at):
        """Return the list of the numbers of the states behind one."""
        if at not in self.following:
            found = all_ticks(program, self.rows[at])
            self.following[at] = [self.number_of(told[1]) for told in found]
        return list(self.following[at])

    def all_behind(self, program, here):
        """Return the sorted list of the numbers of the states behind some."""
        return sorted({to for at in here for to in self.behind(program, at)})

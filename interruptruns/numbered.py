"""Things with numbers."""


class Numbered:
    """Things, numbered in the order in which they are found."""

    def __init__(self, first):
        self.rows = [first]
        self.numbers = {first: 0}

    def number_of(self, thing):
        """Return the number of a thing, which it gets now if it has none."""
        at = self.numbers.setdefault(thing, len(self.rows))
        if at == len(self.rows):
            self.rows.append(thing)
        return at

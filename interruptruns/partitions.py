"""Points that are alike, by the rows of what is behind them."""


class Classes:
    """Points in numbered classes, which are divided where their points differ.

    The rows are, for each point, a list of tuples of tuples (number, point, or
    None). The first classes have the numbers from 0 on.
    """

    def __init__(self, rows, kinds):
        self.rows = rows
        self.kinds = list(kinds)
        self.members = {}
        for at, kind in enumerate(kinds):
            self.members.setdefault(kind, []).append(at)

    def signed(self, at):
        """Return the set of rows of a point, sorted, with the classes of the points in them."""
        found = {
            tuple([(number, -1 if to is None else self.kinds[to]) for number, to in row])
            for row in self.rows[at]
        }
        return tuple(sorted(found))

    def divide(self, unsure):
        """Divide the classes of these points, and return the list of the points whose class is another one.

        The other points of each class have to be alike.
        """
        found = {}
        for at in unsure:
            groups = found.setdefault(self.kinds[at], {})
            groups.setdefault(self.signed(at), []).append(at)
        moved = []
        for kind, groups in found.items():
            moved.extend(self.take_apart(kind, list(groups.values())))
        return moved

    def take_apart(self, kind, parts):
        """Give these parts of a class, and what is left of it, classes of their own.

        Return the list of the points whose class is another one.
        """
        told = {at: True for part in parts for at in part}
        rest = [at for at in self.members[kind] if at not in told]
        by_size = sorted([*parts, rest], key=len)
        # The largest part stays what it is, so that few points become unsure.
        self.members[kind] = by_size.pop()
        moved = []
        for part in by_size:
            if part:
                number = len(self.members)
                self.members[number] = part
                for at in part:
                    self.kinds[at] = number
                moved.extend(part)
        return moved


def alike(rows, kinds):
    """Return the list of the classes of points that are alike.

    Points are alike if they begin in the same class and have the same set of
    rows when each point in them is replaced by its class. The classes are as
    large as they can be. See Classes for the arguments.
    """
    classes = Classes(rows, kinds)
    ahead = [[] for point in rows]
    for at, found in enumerate(rows):
        for row in found:
            for number, to in row:
                if to is not None:
                    ahead[to].append(at)
    unsure = list(range(len(rows)))
    while unsure:
        moved = classes.divide(unsure)
        # A class of another number was in no row before, so a point with it in
        # its rows differs from all that were like it.
        unsure = sorted({before for at in moved for before in ahead[at]})
    return list(classes.kinds)

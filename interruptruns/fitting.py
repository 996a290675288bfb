"""Runs along a log, all of them at once.

A log is gone through tick by tick. Ahead of a tick all entries of earlier
moments have been used, and perhaps some of this moment, by the tick before. A
layer is what can be there then: a tuple of tuples (number of these entries,
tuple of points), sorted. Points are the numbers of states or pairs in a sight.
"""

FIRST_LAYER = ((0, (0,)),)


class Tracks:
    """A log, and what can be there along it."""

    def __init__(self, sight, log):
        self.sight = sight
        self.entries = {}
        for moment, kind, name in log:
            self.entries.setdefault(moment, []).append((kind, name))
        # The same layers come again where the log is silent. What was found for
        # one is not sought once more.
        self.layers = {}

    def due_at(self, tick):
        """Return the tuple of the events that are due in a tick, and the number of those of its moment."""
        now = [(0, kind, name) for kind, name in self.entries.get(tick, [])]
        later = [(1, kind, name) for kind, name in self.entries.get(tick + 1, [])]
        return tuple(now + later), len(now)

    def behind(self, layer, tick):
        """Return the layer behind a tick, and how many of the events that are due there can be used."""
        due = self.due_at(tick)
        if (layer, due) not in self.layers:
            self.layers[layer, due] = layer_behind(self.sight, layer, due)
        return self.layers[layer, due]

    def leading(self, layer, tick, goal):
        """Return the part of a layer that can lead to a part of the one behind a tick."""
        due = self.due_at(tick)
        if (layer, due, goal) not in self.layers:
            self.layers[layer, due, goal] = layer_ahead(self.sight, layer, due, goal)
        return self.layers[layer, due, goal]

    def follow(self, ticks):
        """Return the list of the layers of runs of this length, and the most entries that can be used in order.

        The list ends with the first layer that is empty.
        """
        found = [FIRST_LAYER]
        past = 0
        most = 0
        for tick in range(ticks):
            layer, used = self.behind(found[-1], tick)
            found.append(layer)
            most = max(most, past + used)
            if not layer:
                break
            past += self.due_at(tick)[1]
        return found, most

    def whole(self, layer, ticks):
        """Return the part of the layer behind all ticks where the whole log has been used."""
        if any([moment > ticks for moment in self.entries]):
            return ()
        many = len(self.entries.get(ticks, []))
        return tuple([told for told in layer if told[0] == many])


def layer_behind(sight, layer, due):
    """Return the layer behind one in which these events are due, and how many of them can be used."""
    found = {}
    most = 0
    for used, points in layer:
        for point in points:
            for choice, seen, behind in sight.moves_from(point):
                most = max(most, used + shared_length(seen, due[0][used:used + len(seen)]))
            for choice, rest, behind in steps_along(sight, used, point, due):
                room = found.setdefault(rest, {})
                for to in behind:
                    room[to] = True
    return tuple([(rest, tuple(sorted(found[rest]))) for rest in sorted(found)]), most


def shared_length(first, second):
    """Return how many of the first elements of two tuples are the same."""
    many = 0
    for one, other in zip(first, second):
        if one != other:
            return many
        many += 1
    return many


def steps_along(sight, used, point, due):
    """Return the list of (choice, entries used ahead of the next tick, numbers behind) of fitting steps.

    They are those from a point that use the next ones of the events that are
    due, and no others.
    """
    events, now = due
    found = []
    for choice, seen, behind in sight.moves_from(point):
        told = used + len(seen)
        if told >= now and seen == events[used:told]:
            found.append((choice, told - now, behind))
    return found


def layer_ahead(sight, layer, due, goal):
    """Return the part of a layer that can lead to a part of the next one."""
    inside = {(rest, point): True for rest, points in goal for point in points}
    found = []
    for used, points in layer:
        left = []
        for point in points:
            told = steps_along(sight, used, point, due)
            if any([(rest, to) in inside for choice, rest, behind in told for to in behind]):
                left.append(point)
        if left:
            found.append((used, tuple(left)))
    return tuple(found)


def first_choices(tracks, layers, goal):
    """Return the first one, in list order, of the lists of choices through layers to a goal in the last one."""
    goals = [goal]
    for tick in reversed(range(len(layers) - 1)):
        goals.append(tracks.leading(layers[tick], tick, goals[-1]))
    goals.reverse()
    choices = []
    used = point = 0
    for tick in range(len(layers) - 1):
        there = {rest: points for rest, points in goals[tick + 1]}
        for choice, rest, behind in steps_along(tracks.sight, used, point, tracks.due_at(tick)):
            if behind[0] in there.get(rest, ()):
                choices.append(choice)
                used = rest
                point = behind[0]
                break
    return choices

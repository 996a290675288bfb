"""Greatest numbers of frames and of waiting tasks, lost requests, and longest stretches."""

from interruptruns.errors import InvalidNumber
from interruptruns.programs import check_known
from interruptruns.reach import LIMIT, Search
from interruptruns.states import MOST_MASK
from interruptruns.sums import greatest_sums
from interruptruns.values import is_between


def most_frames(machine, limit=LIMIT):
    """Return the greatest depth of a step, and the first one of the shortest runs that have it."""
    search = Search(machine, limit)
    best = 0
    first = []
    while search.has_more():
        at = search.at
        for choice, to, events, depth, height in search.next_ticks():
            if depth > best:
                best = depth
                first = [*search.way_of(at), choice]
    return best, first


def most_waiting(machine, limit=LIMIT):
    """Return the greatest number of waiting tasks, and the first one of the shortest runs that have it."""
    search = Search(machine, limit)
    while search.has_more():
        search.next_ticks()
    lengths = [len(parts[5]) for parts in search.known.rows]
    return max(lengths), search.way_of(lengths.index(max(lengths)))


def loses(machine, name, limit=LIMIT):
    """Return the first one of the shortest runs in which a request of a source is lost, or None."""
    check_known(name, machine.program.names)
    search = Search(machine, limit)
    first = None
    while search.has_more():
        at = search.at
        for choice, to, events, depth, height in search.next_ticks():
            if first is None and ("lost", name) in [event[1:] for event in events]:
                first = [*search.way_of(at), choice]
    return first


def longest_stretch(machine, level, limit=LIMIT):
    """Return the greatest number of successive ticks at a running level not less than this one.

    Return None if there is no greatest number.
    """
    if not is_between(level, 0, MOST_MASK):
        raise InvalidNumber(level)
    search = Search(machine, limit)
    edges = []
    while search.has_more():
        ticks = search.next_ticks()
        edges.append([(1, to) for choice, to, events, depth, height in ticks if height >= level])
    sums = greatest_sums(edges)
    return None if None in sums else max(sums)

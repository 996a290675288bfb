"""Merged states: pairs that are led to others with the same longest times."""

from interruptruns.errors import InvalidState
from interruptruns.longest import check_question
from interruptruns.numbered import Numbered
from interruptruns.pairs import Pairs, pair_order
from interruptruns.papers import read_pair
from interruptruns.partitions import alike
from interruptruns.reach import LIMIT, check_limit
from interruptruns.states import state_text
from interruptruns.sums import greatest_sums
from interruptruns.ticks import all_ticks
from interruptruns.waiting import Watch


def merge(machine, question, limit=LIMIT):
    """Return the merging of all pairs that can be there that leads to the fewest pairs."""
    check_question(machine.program, question)
    check_limit(limit)
    pairs = Pairs(machine, question, limit)
    numbers = pairs.known.numbers
    rows = []
    for state, ahead in pairs.known.rows:
        steps = [told[1:] for told in pairs.moves_from(state)]
        found = effects(pairs.watch, ahead, steps)
        rows.append([tuple([(told, numbers.get(to)) for told, to in row]) for row in found])
    kinds = alike(rows, [0 if ahead is None else 1 for state, ahead in pairs.known.rows])
    texts = [state_text(parts) for parts in pairs.reached.rows]
    named = [(texts[state], ahead) for state, ahead in pairs.known.rows]
    least = {}
    classes = {pair: kind for pair, kind in zip(named, kinds)}
    for pair in sorted(named, key=pair_order):
        least.setdefault(classes[pair], pair)
    return {pair: least[classes[pair]] for pair in named}


def effects(watch, ahead, steps):
    """Return the list of the different effects of the steps from a pair with this number ahead.

    The steps are tuples (state behind, ends, begun). An effect is a tuple of
    tuples (time or offset, pair behind or None), the first one of a pair without
    a wait for the state behind alone.
    """
    found = {}
    for behind, ends, begun in steps:
        row = [(0, (behind, None))] if ahead is None else []
        for offset, end, left in watch.waits_of(ahead, ends, begun):
            row.append((offset, (behind, left)) if end is None else (end - offset, None))
        found[tuple(row)] = True
    return list(found)


def is_merging(machine, question, value):
    """Return whether the value is a merging."""
    check_question(machine.program, question)
    led = led_pairs(machine.program, value)
    if led is None or (machine.start.parts, None) not in led:
        return False
    for pair, to in led.items():
        if led.get(to) != to or (pair[1] is None) != (to[1] is None):
            return False
    found = all_effects(machine.program, Watch(machine.program, question), list(led))
    merged = {}
    for pair, rows in found.items():
        if not all([to is None or to in led for row in rows for number, to in row]):
            return False
        merged[pair] = merged_rows(rows, led)
    return all([merged[pair] == merged[to] for pair, to in led.items()])


def led_pairs(program, value):
    """Return the dict of the pairs of a dict, with the parts of the states, or None if it has others."""
    if not isinstance(value, dict):
        return None
    known = {}
    led = {}
    for pair, to in value.items():
        first = read_pair(program, pair, known)
        second = read_pair(program, to, known)
        if first is None or second is None:
            return None
        led[first] = second
    return led


def all_effects(program, watch, pairs):
    """Return the dict from each of these pairs to the list of the effects of its steps."""
    steps = {}
    found = {}
    for parts, ahead in pairs:
        if parts not in steps:
            ticks = all_ticks(program, parts)
            steps[parts] = [(told[1], *watch.seen(parts, told[2])) for told in ticks]
        found[parts, ahead] = effects(watch, ahead, steps[parts])
    return found


def merged_rows(rows, led):
    """Return the dict of the effects, each pair replaced by the one that it is led to."""
    return {tuple([(number, led.get(to)) for number, to in row]): True for row in rows}


def merged_ticks(machine, question, value):
    """Return the greatest time of a wait, found from the pairs alone that others are led to."""
    if not is_merging(machine, question, value):
        raise InvalidState(value)
    program = machine.program
    led = led_pairs(program, value)
    found = all_effects(program, Watch(program, question), list({to: True for to in led.values()}))
    known = Numbered(led[machine.start.parts, None])
    edges = []
    while len(edges) < len(known.rows):
        pair = known.rows[len(edges)]
        edges.append(edges_of(pair, list(merged_rows(found[pair], led)), known))
    sums = greatest_sums(edges)
    return None if None in sums else max(sums)


def edges_of(pair, rows, known):
    """Return the list of the edges (gain, number of the pair behind or None) of a pair with these effects."""
    edges = []
    for row in rows:
        told = list(row)
        if pair[1] is None:
            # No wait leads to the state behind alone, but others can begin there.
            known.number_of(told.pop(0)[1])
        for number, to in told:
            edges.append((number, None) if to is None else (1 - number, known.number_of(to)))
    return edges

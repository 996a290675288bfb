"""A second reading of merged states, for comparison: effects as texts, and all ways to merge a few pairs."""

from interruptruns.states import parse_state
from second_waits import wait_behind, waits_begun


def effects_of(machine, question, pair):
    """The list of the effects of the steps from a pair, each a tuple of parts."""
    text, ahead = pair
    state = parse_state(machine.program, text)
    found = []
    for step in machine.steps(state):
        if ahead is None:
            row = [("text", (step.state.text, None))]
            for begin, end, left in waits_begun(machine, question, state, step.events):
                row.append(("time", end - begin) if end is not None else ("from", begin, (step.state.text, left)))
        else:
            end, left = wait_behind(question, ahead, step.events)
            row = [("end", end)] if end is not None else [("pair", (step.state.text, left))]
        found.append(tuple(row))
    return found


def pairs_in(row):
    return [part[-1] for part in row if isinstance(part[-1], tuple)]


def replaced(rows, led):
    return {tuple((*part[:-1], led[part[-1]]) if isinstance(part[-1], tuple) else part for part in row) for row in rows}


def all_effects(machine, question):
    """The dict from all pairs that can be there to their effects."""
    waiting, found = [(machine.start.text, None)], {}
    while waiting:
        pair = waiting.pop()
        if pair not in found:
            found[pair] = effects_of(machine, question, pair)
            waiting.extend(to for row in found[pair] for to in pairs_in(row))
    return found


def is_right(effects, led):
    """Whether pairs with these effects may be led like this; the dict has all of them."""
    for pair, to in led.items():
        if led[to] != to or (pair[1] is None) != (to[1] is None):
            return False
        if replaced(effects[pair], led) != replaced(effects[to], led):
            return False
    return True


def order(pair):
    return pair[0], -1 if pair[1] is None else pair[1]


def partitions(things):
    """All ways to divide a list of things into classes, each class a list."""
    if not things:
        yield []
        return
    for rest in partitions(things[1:]):
        yield [[things[0]], *rest]
        for at, part in enumerate(rest):
            yield [*rest[:at], [things[0], *part], *rest[at + 1:]]


def fewest(effects):
    """The least number of classes of any way to merge these pairs, all ways tried."""
    numbers = []
    for classes in partitions(sorted(effects, key=order)):
        led = {pair: part[0] for part in classes for pair in part}
        if is_right(effects, led):
            numbers.append(len(classes))
    return min(numbers)


def coarsest(effects):
    """The classes found by dividing them until nothing changes: a dict from each pair to the least that is like it."""
    kinds = {pair: pair[1] is None for pair in effects}
    while True:
        signed = {pair: (kinds[pair], frozenset(replaced(effects[pair], kinds))) for pair in effects}
        if len(set(signed.values())) == len(set(kinds.values())):
            break
        kinds = signed
        # Short names for the classes keep the next ones small.
        names = {}
        kinds = {pair: names.setdefault(kind, ("class", len(names))) for pair, kind in kinds.items()}
    least = {}
    for pair in sorted(effects, key=order):
        least.setdefault(kinds[pair], pair)
    return {pair: least[kinds[pair]] for pair in effects}

"""Small machines that a random number generator determines, and what tests need of them."""

from interruptruns.errors import TooMany
from interruptruns.reach import Reach
from small import background, machine_of, source, task

KINDS = ("request", "early", "timer", "raise", "lost", "enter", "leave", "answer", "post", "full", "begin", "end", "over")

# One of each kind of thing that is none of what the functions ask for.
THINGS = (None, True, False, 0, 1, -1, "", "a", "A", "main", (), [], {}, ("a",), ["a"], {"a": 1}, b"a", 2.0, object(),
          ValueError, (None, None), [()], {(): ()})


def any_machine(rng, most=400, plain_faults=False):
    """Return a machine with two sources, a task and a counter, with at most so many states."""
    while True:
        faults = {} if plain_faults else {"overruns": rng.choice((0, 0, 1)), "early": rng.choice((0, 0, 1))}
        machine = machine_of(
            "counter c 1",
            source("a", rng.randint(1, 2), rng.randint(1, 4), any_body(rng, "a"), keep=rng.randint(1, 2)),
            source("b", rng.randint(1, 2), rng.randint(2, 5), any_body(rng, "b"), enter=rng.randint(0, 1), leave=rng.randint(0, 1)),
            task("job", rng.choice(("run 1", "run 2; answer a", "run 1; raise b"))),
            background(rng.choice(("run 1", "run 1; mask 2; run 1", "run 2; add c", "either; run 1; or; run 2; end",
                                   "loop 1; run 1; mask 1; end; run 1", "run 1; raise a; run 2; post job"))),
            **faults,
        )
        try:
            Reach(machine, most)
            return machine
        except TooMany:
            pass


def any_body(rng, name):
    lines = ["run 1", rng.choice(["run 1", "either; run 1; or; end", "post job", "when c; raise a; take c; or; end",
                                  "arm b 2", "mask 2; run 1", "add c", "loop 1; run 1; end"]), f"answer {name}"]
    if rng.random() < 0.3:
        lines[0], lines[2] = lines[2], lines[0]
    return "; ".join(lines)


def any_question(rng):
    """Return a question for such a machine."""
    pattern = [(rng.choice(KINDS[:8] + ("asked",)), rng.choice("ab")), (rng.choice(KINDS[8:12]), "job")]
    return rng.choice(["a", "b", (pattern[0], pattern[1]), (pattern[0], pattern[0]), (pattern[1], pattern[0]),
                       (pattern[0], ("answer", "a")), (("over", "main"), pattern[0])])


def any_kinds(rng):
    """Return a tuple of different kinds of events, from none to all."""
    return tuple(rng.sample(KINDS, rng.choice((0, 1, 1, 2, 3, 6, 13))))


def all_states(machine):
    """Return the dict of all states by their texts, each with the list of its steps."""
    found, waiting = {}, [machine.start]
    while waiting:
        state = waiting.pop()
        if state.text not in found:
            found[state.text] = machine.steps(state)
            waiting.extend(step.state for step in found[state.text])
    return found

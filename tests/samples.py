"""Programs for tests, and an independent reading of their texts."""

import random
import re

from interruptruns.programs import Program, Source, least_ticks

# A text with every kind of line, bodies of every depth, and empty ones.
FULL = """counter count 2
counter sum 5
source fast level 2 gap 7 keep 1 enter 0 leave 0
run 2
answer fast
end
source slow level 1 gap 20 keep 3 enter 1 leave 5
end
task job
run 1
end
task work
run 20
post job
end
background
mask 9
run 4
unmask
either
when count
loop 5
run 3
raise fast
end
take sum
or
arm slow 50
end
add count
or
end
loop 2
either
run 1
or
run 2
end
end
when sum
or
end
end"""

# The texts of FULL, one for each counter, source, task and the background.
FULL_PARTS = (
    (("count", 2), ("sum", 5)),
    (("fast", 2, 7, (("run", 2), ("answer", "fast"))), ("slow", 1, 20, ())),
    (("job", (("run", 1),)), ("work", (("run", 20), ("post", "job")))),
    (
        ("mask", 9),
        ("run", 4),
        ("unmask",),
        (
            "either",
            (
                (
                    "when",
                    "count",
                    (("loop", 5, (("run", 3), ("raise", "fast"))), ("take", "sum")),
                    (("arm", "slow", 50),),
                ),
                ("add", "count"),
            ),
            (),
        ),
        ("loop", 2, (("either", (("run", 1),), (("run", 2),)),)),
        ("when", "sum", (), ()),
    ),
)


def full_program():
    """Return the program of FULL, made without its text."""
    counters, (fast, slow), tasks, background = FULL_PARTS
    sources = [Source(*fast), Source(*slow, keep=3, enter=1, leave=5)]
    return Program(sources, background, tasks=tasks, counters=counters)


HEADS = {
    "run": "N", "either": "", "when": "W", "loop": "N", "mask": "N", "unmask": "", "answer": "W",
    "raise": "W", "arm": "WN", "post": "W", "add": "W", "take": "W",
}
SOURCE_WORDS = ("level", "gap", "keep", "enter", "leave")


def is_numeral(word):
    return re.fullmatch("0|[1-9][0-9]{0,29}", word) is not None


def fits(words, kinds):
    """Whether words are any words (W) or integers (N), as the kinds say."""
    if len(words) != len(kinds):
        return False
    return all(is_numeral(word) if kind == "N" else word for word, kind in zip(words, kinds))


def wrong_line(text):
    """The index of the first wrong line, the number of lines, or None.

    This goes through the lines once and keeps which ends are still to come, and
    in which part of the program it is.
    """
    part, ends = 0, []
    lines = text.split("\n")
    for at, line in enumerate(lines):
        words = line.split(" ")
        if ends:
            ends = inside(words, ends)
        else:
            part, ends = outside(words, part)
        if ends is None:
            return at
    return None if part == 3 and not ends else len(lines)


def inside(words, ends):
    """The ends that are to come behind a line in a body, None if it is wrong."""
    if words == ["or"]:
        return [*ends[:-1], "second"] if ends[-1] == "first" else None
    if words == ["end"]:
        return ends[:-1] if ends[-1] != "first" else None
    if words[0] not in HEADS or not fits(words[1:], HEADS[words[0]]):
        return None
    if words[0] not in ("either", "when", "loop"):
        return ends
    if len(ends) == 4:
        return None
    return [*ends, "second" if words[0] == "loop" else "first"]


def outside(words, part):
    """The part of the program and the ends behind a line outside of bodies."""
    kinds = {"counter": (0, "WN"), "task": (2, "W"), "background": (3, "")}
    if part == 3:
        return part, None
    if words[0] == "source":
        right = part <= 1 and words[2::2] == list(SOURCE_WORDS)
        right = right and fits(words[1:2] + words[3::2], "WNNNNN")
        return 1, ["second"] if right else None
    if words[0] not in kinds:
        return part, None
    place, form = kinds[words[0]]
    if part > place or not fits(words[1:], form):
        return part, None
    return place, [] if place == 0 else ["second"]


def any_program(seed):
    """Return a program that the seed determines."""
    rng = random.Random(seed)
    letters = rng.sample("abcdefghijklmnopqrstuvwxyz", 10)
    words = [letter * rng.randint(1, 8) for letter in letters]
    names = {
        "source": words[:rng.randint(1, 4)],
        "task": words[4:4 + rng.randint(0, 3)],
        "counter": words[7:7 + rng.randint(0, 3)],
    }
    sources = []
    for name in names["source"]:
        body = any_body(rng, names)
        numbers = {"keep": rng.randint(1, 3), "enter": rng.randint(0, 5), "leave": rng.randint(0, 5)}
        sources.append(Source(name, rng.randint(1, 9), rng.randint(1, 50), body, **numbers))
    tasks = [(name, any_body(rng, names)) for name in names["task"]]
    counters = [(name, rng.randint(1, 5)) for name in names["counter"]]
    return Program(sources, any_body(rng, names), tasks=tasks, counters=counters)


def any_body(rng, names):
    """Return a body that uses a tick on every way."""
    left = {"branches": 6, "statements": 30}
    return ordered(rng, [("run", rng.randint(1, 20)), *any_statements(rng, names, left, 1)])


def any_statements(rng, names, left, level):
    found = []
    for _ in range(rng.randint(0, 6)):
        if left["statements"] > 0:
            left["statements"] -= 1
            found.append(any_statement(rng, names, left, level))
    return found


def any_statement(rng, names, left, level):
    kinds = ["run", "mask", "unmask", "answer", "raise", "arm"]
    kinds += ["post"] * bool(names["task"])
    kinds += ["add", "take"] * bool(names["counter"])
    if level < 4:
        kinds += ["when"] * bool(names["counter"])
        kinds += ["either", "loop"] * (left["branches"] > 0)
    kind = rng.choice(kinds)
    if kind in ("either", "loop"):
        left["branches"] -= 1
    if kind in ("either", "when", "loop"):
        bodies = [any_statements(rng, names, left, level + 1) for _ in "ab"]
        if kind == "either":
            return (kind, tuple(bodies[0]), tuple(bodies[1]))
        if kind == "when":
            return (kind, rng.choice(names["counter"]), tuple(bodies[0]), tuple(bodies[1]))
        left["statements"] -= 1
        return (kind, rng.randint(1, 5), ordered(rng, [("run", 1), *bodies[0]]))
    parts = {
        "run": [rng.randint(1, 20)],
        "mask": [rng.randint(1, 9)],
        "unmask": [],
        "answer": [rng.choice(names["source"])],
        "raise": [rng.choice(names["source"])],
        "arm": [rng.choice(names["source"]), rng.randint(1, 50)],
        "post": [rng.choice(names["task"] or "x")],
        "add": [rng.choice(names["counter"] or "x")],
        "take": [rng.choice(names["counter"] or "x")],
    }
    return (kind, *parts[kind])


def ordered(rng, statements):
    """Return the statements as a body, the first one put anywhere."""
    rest = statements[1:]
    rest.insert(rng.randint(0, len(rest)), statements[0])
    assert least_ticks(tuple(rest)) >= 1
    return tuple(rest)

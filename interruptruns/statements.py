"""The forms of statements, and the ticks that they use."""

from interruptruns.values import is_between, is_name

# What stands behind the first word of each statement.
FORMS = {
    "run": ("ticks",),
    "either": ("body", "body"),
    "when": ("counter", "body", "body"),
    "loop": ("passes", "body"),
    "mask": ("level",),
    "unmask": (),
    "answer": ("source",),
    "raise": ("source",),
    "arm": ("source", "delay"),
    "post": ("task",),
    "add": ("counter",),
    "take": ("counter",),
}

# The greatest value of each part that is a number. The least one is 1.
MOST = {"ticks": 20, "passes": 5, "level": 9, "delay": 50}

MOST_LEVELS = 4
MOST_STATEMENTS = 40


def is_statement(value):
    """Return whether the value is a statement, but for what is in its bodies."""
    if not isinstance(value, tuple) or not value:
        return False
    if not isinstance(value[0], str) or value[0] not in FORMS:
        return False
    forms = FORMS[value[0]]
    if len(value) != 1 + len(forms):
        return False
    return all([is_part(form, part) for form, part in zip(forms, value[1:])])


def is_part(form, value):
    """Return whether the value is a part of this form, but for what is in a body."""
    if form == "body":
        return isinstance(value, tuple)
    if form in MOST:
        return is_between(value, 1, MOST[form])
    return is_name(value)


def inner_bodies(statement):
    """Return the list of the bodies of a statement."""
    forms = FORMS[statement[0]]
    return [part for form, part in zip(forms, statement[1:]) if form == "body"]


def all_statements(value):
    """Return the list of all statements of a body, those inside included.

    Return None if the value has parts that are none, or too many of them, or
    too many levels.
    """
    found = []
    waiting = [(value, 1)]
    while waiting:
        body, level = waiting.pop()
        if not isinstance(body, tuple) or level > MOST_LEVELS:
            return None
        # Counted before they are looked at: bodies that stand in many places
        # can have far more statements than could ever be visited.
        if len(found) + len(body) > MOST_STATEMENTS:
            return None
        for statement in body:
            if not is_statement(statement):
                return None
            found.append(statement)
            waiting.extend([(inner, level + 1) for inner in inner_bodies(statement)])
    return found


def tick_bounds(body):
    """Return the least and the most ticks of a body, over all ways."""
    least = 0
    most = 0
    for statement in body:
        low, high = statement_bounds(statement)
        least += low
        most += high
    return least, most


def statement_bounds(statement):
    """Return the least and the most ticks of a statement, over all ways."""
    if statement[0] == "run":
        return statement[1], statement[1]
    bounds = [tick_bounds(body) for body in inner_bodies(statement)]
    if not bounds:
        return 0, 0
    if statement[0] == "loop":
        return 0, statement[1] * bounds[0][1]
    return min([low for low, high in bounds]), max([high for low, high in bounds])

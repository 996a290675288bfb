"""Bodies as rows of instructions, and the places where their ticks are used.

The instructions are the statements in the order of the text, but that `run`,
`either`, `when` and `loop` are written as
- ("run", place): uses ticks;
- ("either", at), ("when", counter, at): goes on, or at another instruction;
- ("loop", most): a loop begins;
- ("again", at): its body follows once more, or it goes on behind the loop;
- ("jump", at): goes on at another instruction.
"""

from interruptruns.statements import inner_bodies


def flat_body(body):
    """Return a tuple of the instructions and the places of a body.

    A place is a tuple of its ticks, the index of the instruction behind it, and
    the numbers of the loops around it, from the outermost one.
    """
    rows = []
    places = []
    put_body(body, rows, places, ())
    return tuple(rows), tuple(places)


def put_body(body, rows, places, around):
    """Put the instructions of a body behind the rows, and its places behind the places."""
    for statement in body:
        if statement[0] == "run":
            rows.append(("run", len(places)))
            places.append((statement[1], len(rows), around))
        elif statement[0] == "loop":
            put_loop(statement, rows, places, around)
        elif inner_bodies(statement):
            put_branches(statement, rows, places, around)
        else:
            rows.append(statement)


def put_loop(statement, rows, places, around):
    """Put the instructions of a loop behind the rows."""
    rows.append(("loop", statement[1]))
    again = len(rows)
    rows.append(())
    put_body(statement[2], rows, places, (*around, statement[1]))
    rows.append(("jump", again))
    rows[again] = ("again", len(rows))


def put_branches(statement, rows, places, around):
    """Put the instructions of an `either` or a `when` behind the rows."""
    first, second = inner_bodies(statement)
    branch = len(rows)
    rows.append(())
    put_body(first, rows, places, around)
    jump = len(rows)
    rows.append(())
    rows[branch] = (*statement[:-2], len(rows))
    put_body(second, rows, places, around)
    rows[jump] = ("jump", len(rows))

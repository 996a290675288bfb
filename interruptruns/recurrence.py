"""The recurrence of plain programs."""

from interruptruns.errors import InvalidProgram
from interruptruns.numbered import Numbered
from interruptruns.programs import Program, check_known
from interruptruns.statements import all_statements, tick_bounds
from interruptruns.sums import greatest_sums
from interruptruns.ticks import first_parts, ticks_with

HANDLER_KINDS = ("run", "either", "loop")
BACKGROUND_KINDS = ("run", "either", "loop", "mask", "unmask")


def is_plain(program):
    """Return whether the value is a plain program."""
    if not isinstance(program, Program) or program.tasks or program.counters:
        return False
    levels = {source.level: source.name for source in program.sources}
    if len(levels) < len(program.sources):
        return False
    if not all([is_plain_source(source) for source in program.sources]):
        return False
    return has_kinds(program.background, BACKGROUND_KINDS)


def is_plain_source(source):
    """Return whether a source can be one of a plain program."""
    body = source.body
    if source.keep != 1 or not body or body[-1] != ("answer", source.name):
        return False
    return source.enter + tick_bounds(body)[0] >= 1 and has_kinds(body[:-1], HANDLER_KINDS)


def has_kinds(body, kinds):
    """Return whether all statements of a body, those inside included, have these kinds."""
    return all([statement[0] in kinds for statement in all_statements(body)])


def check_plain(program, name):
    """Raise InvalidProgram unless the program is plain, then InvalidName unless a source has the name."""
    if not is_plain(program):
        raise InvalidProgram(program)
    check_known(name, program.names)


def blocked(program, name):
    """Return the greatest number of ticks that the background can hold a source back, or None."""
    check_plain(program, name)
    return masked_ticks(program, program.source_of(name).level)


def masked_ticks(program, level):
    """Return the greatest number of successive ticks of the background with such a mask, or None.

    The mask is not less than the level.
    """
    first = first_parts(program, (0, 0))
    known = Numbered(first[0][0])
    edges = []
    while len(edges) < len(known.rows):
        frame = known.rows[len(edges)]
        found = [(frame[2], known.number_of(to)) for to in frames_behind(program, first, frame)]
        edges.append(found)
    masked = [frame[3] >= level for frame in known.rows]
    ways = []
    for at, found in enumerate(edges):
        rows = [(ticks, to if masked[to] else None) for ticks, to in found]
        ways.append(rows if masked[at] else [])
    sums = greatest_sums(ways)
    return None if None in sums else max(sums)


def frames_behind(program, first, frame):
    """Return the list of the frames of the background at the runs that follow one."""
    name, place, left, mask, loops = frame
    parts = (((name, place, 1, mask, loops),), *first[1:])
    return [told[1][0][0] for told in ticks_with(program, parts, ())]


def recurrence(program, name):
    """Return the solution of the recurrence of a source, or None."""
    check_plain(program, name)
    own = program.source_of(name)
    for source in above(program, own):
        if time_of(program, source) is None:
            return None
    return time_of(program, own)


def time_of(program, source):
    """Return what answer_time does of a source at its level."""
    return answer_time(masked_ticks(program, source.level), source, above(program, source))


def answer_time(held, source, higher):
    """Return the greatest time until the answer of a source below others, by their ticks alone.

    Return None if the background can hold it for ever, or if the time until the
    source has been left is greater than its gap, or there is none.
    """
    if held is None or least_time(held + handler_ticks(source), higher, source.gap) is None:
        return None
    return least_time(held + answer_ticks(source), higher, source.gap)


def least_time(ticks, sources, most):
    """Return the least time, from 1 to the most, that is these ticks and those of other handlers in it.

    Return None if there is none.
    """
    time = 1
    while time <= most:
        parts = [handler_ticks(source) * ((time + source.gap - 1) // source.gap) for source in sources]
        needed = ticks + sum(parts)
        if needed == time:
            return time
        time = needed
    return None


def above(program, source):
    """Return the list of the sources of higher levels."""
    return [one for one in program.sources if one.level > source.level]


def answer_ticks(source):
    """Return the most ticks from the entering of a source to its answer."""
    return source.enter + tick_bounds(source.body)[1]


def handler_ticks(source):
    """Return the most ticks from the entering of a source to its end."""
    return answer_ticks(source) + source.leave

"""Levels with which all sources of a plain program keep their limits."""

from interruptruns.errors import InvalidLimits, InvalidProgram
from interruptruns.programs import Program, Source
from interruptruns.recurrence import answer_time, is_plain, masked_ticks
from interruptruns.statements import MOST, all_statements
from interruptruns.values import is_between, is_integer


def with_levels(program, levels):
    """Return the program with these levels."""
    check_masks(program)
    mosts = {name: len(program.names) for name in program.names}
    if not has_numbers(levels, mosts) or not are_from_one(list(levels.values())):
        raise InvalidLimits(levels)
    sources = [with_level(source, levels[source.name]) for source in program.sources]
    return Program(tuple(sources), program.background)


def find_levels(program, limits):
    """Return levels that keep the limits, or None if there are none."""
    check_limits(program, limits)
    lower, times = given_levels(program, limits)
    return None if times else lower


def stuck(program, limits):
    """Return the levels that can be given and the times of the sources that are left, or None if none is."""
    check_limits(program, limits)
    lower, times = given_levels(program, limits)
    return (lower, times) if times else None


def is_stuck(program, limits, value):
    """Return whether the value is a tuple of lower levels that can be given, and of times that cannot."""
    check_limits(program, limits)
    if not isinstance(value, tuple) or len(value) != 2:
        return False
    lower, times = value
    if not are_lower(program, lower) or not isinstance(times, dict):
        return False
    given = sorted(list(lower), key=lambda name: lower[name])
    for at, name in enumerate(given):
        found = times_without(program, given[:at])
        if not keeps(found[name], limits[name]):
            return False
    found = times_without(program, given)
    return are_same(times, found) and not any([keeps(found[name], limits[name]) for name in found])


def check_masks(program):
    """Raise InvalidProgram unless the program is plain and all its masks are 9."""
    if not is_plain(program):
        raise InvalidProgram(program)
    masks = [one[1] for one in all_statements(program.background) if one[0] == "mask"]
    if not all([mask == MOST["level"] for mask in masks]):
        raise InvalidProgram(program)


def check_limits(program, limits):
    """Raise InvalidProgram as check_masks does, then InvalidLimits unless the value is limits."""
    check_masks(program)
    if not has_numbers(limits, {source.name: source.gap for source in program.sources}):
        raise InvalidLimits(limits)


def has_numbers(value, mosts):
    """Return whether the value is a dict from just these names to integers from 1 to these."""
    if not isinstance(value, dict) or len(value) != len(mosts):
        return False
    for name, number in value.items():
        if not isinstance(name, str) or name not in mosts:
            return False
        if not is_between(number, 1, mosts[name]):
            return False
    return True


def are_from_one(numbers):
    """Return whether these integers are those from 1 on, each once."""
    return sorted(numbers) == list(range(1, len(numbers) + 1))


def are_lower(program, value):
    """Return whether the value is a dict from some of the sources, not all, to the levels from 1 on."""
    if not isinstance(value, dict) or len(value) >= len(program.names):
        return False
    for name in value:
        if not isinstance(name, str) or name not in program.names:
            return False
    levels = list(value.values())
    return all([is_integer(level) for level in levels]) and are_from_one(levels)


def with_level(source, level):
    """Return the source with another level."""
    return Source(source.name, level, source.gap, source.body,
                  keep=source.keep, enter=source.enter, leave=source.leave)


def given_levels(program, limits):
    """Return the dict of the levels that are given, and the dict of the times of the sources that are left."""
    lower = {}
    while len(lower) < len(program.names):
        times = times_without(program, list(lower))
        fitting = [name for name in times if keeps(times[name], limits[name])]
        if not fitting:
            return lower, times
        lower[fitting[0]] = len(lower) + 1
    return lower, {}


def times_without(program, lower):
    """Return the dict from all sources but the lower ones to their times below all others of these.

    A time is None if there is none.
    """
    # All masks are 9, so the background holds every level back for the same time.
    held = masked_ticks(program, MOST["level"])
    left = [source for source in program.sources if source.name not in lower]
    times = {}
    for source in left:
        higher = [other for other in left if other.name != source.name]
        times[source.name] = answer_time(held, source, higher)
    return times


def keeps(time, limit):
    """Return whether there is a time, and it keeps the limit."""
    return time is not None and time <= limit


def are_same(value, times):
    """Return whether a dict has just these times."""
    if len(value) != len(times):
        return False
    for name, time in value.items():
        if not isinstance(name, str) or name not in times:
            return False
        if time is not None and not is_integer(time):
            return False
        if time != times[name]:
            return False
    return True

"""States, which are what is there between two ticks, and their texts."""

from interruptruns.errors import InvalidState, ParseError
from interruptruns.lines import is_numeral
from interruptruns.programs import BACKGROUND
from interruptruns.values import is_between, is_count

MOST_MASK = 9
MOST_OWED = 6
MOST_DELAY = 50
MOST_QUEUE = 4
WORDS = 8


class State:
    """What is there between two ticks."""

    def __init__(self, frames, pending, owed, ages, timers, queue, counters, spare):
        self.parts = (frames, pending, owed, ages, timers, queue, counters, spare)

    @property
    def frames(self):
        """The frames, from the bottom to the top."""
        return self.parts[0]

    @property
    def pending(self):
        """The numbers of kept requests."""
        return self.parts[1]

    @property
    def owed(self):
        """The numbers of requests that were kept and are not answered."""
        return self.parts[2]

    @property
    def ages(self):
        """The numbers of ticks since the last requests."""
        return self.parts[3]

    @property
    def timers(self):
        """The numbers of ticks until each timer asks its source, or None."""
        return self.parts[4]

    @property
    def queue(self):
        """The names of the tasks that wait."""
        return self.parts[5]

    @property
    def counters(self):
        """The values of the counters."""
        return self.parts[6]

    @property
    def spare(self):
        """The numbers of overruns and of early requests that may still come."""
        return self.parts[7]

    @property
    def text(self):
        """The state as eight words."""
        return state_text(self.parts)

    def __eq__(self, other):
        return isinstance(other, State) and self.text == other.text


def state_text(parts):
    """Return the text of a state with these parts; they may be any objects."""
    frames = parts[0]
    words = ["?"]
    if isinstance(frames, (list, tuple)):
        words = ["/".join([frame_text(frame) for frame in frames]) or "-"]
    return " ".join(words + [listed_text(part, ",") for part in parts[1:]])


def frame_text(frame):
    """Return the text of a frame."""
    if not isinstance(frame, (list, tuple)) or len(frame) != 5:
        return "?"
    return ":".join([element_text(part) for part in frame[:4]] + [listed_text(frame[4], ".")])


def listed_text(value, sign):
    """Return the text of numbers or names that are separated by a sign."""
    if not isinstance(value, (list, tuple)):
        return "?"
    return sign.join([element_text(one) for one in value]) or "-"


def element_text(value):
    """Return the text of a number, a name, or None."""
    if value is None:
        return "x"
    return f"{value}" if isinstance(value, (int, str)) else "?"


def is_state(program, value):
    """Return whether the value is a state for the program."""
    return isinstance(value, State) and are_parts(program, value.parts)


def are_parts(program, parts):
    """Return whether a state with these parts is one for the program."""
    frames, pending, owed, ages, timers, queue, counters, spare = parts
    sources = program.sources
    return (
        are_frames(program, frames)
        and are_within(pending, [source.keep for source in sources])
        and are_within(owed, [MOST_OWED for source in sources])
        and are_within(ages, [source.gap for source in sources])
        and are_timers(timers, len(sources))
        and is_queue(queue, [name for name, body in program.tasks])
        and are_within(counters, [most for name, most in program.counters])
        and are_two_counts(spare)
    )


def are_within(value, mosts):
    """Return whether the value is a tuple of counts that are at most these."""
    if not isinstance(value, tuple) or len(value) != len(mosts):
        return False
    return all([is_between(one, 0, most) for one, most in zip(value, mosts)])


def are_timers(value, many):
    """Return whether the value can be the timers of so many sources."""
    if not isinstance(value, tuple) or len(value) != many:
        return False
    return all([one is None or is_between(one, 0, MOST_DELAY) for one in value])


def is_queue(value, tasks):
    """Return whether the value can be the queue of these tasks."""
    if not isinstance(value, tuple) or len(value) > MOST_QUEUE:
        return False
    return all([isinstance(one, str) and one in tasks for one in value])


def are_two_counts(value):
    """Return whether the value is a tuple of two counts."""
    if not isinstance(value, tuple) or len(value) != 2:
        return False
    return all([is_count(one) for one in value])


def are_frames(program, value):
    """Return whether the value can be the frames of a state."""
    if not isinstance(value, tuple) or not value:
        return False
    if not all([is_frame(program, frame) for frame in value]):
        return False
    return are_in_order(program, [frame[0] for frame in value])


def are_in_order(program, names):
    """Return whether frames with these names can be on top of each other."""
    if names[0] != BACKGROUND:
        return False
    tasks = [name for name, body in program.tasks]
    above = names[2:] if len(names) > 1 and names[1] in tasks else names[1:]
    if not all([name in program.levels for name in above]):
        return False
    levels = [program.levels[name] for name in above]
    return all([low < high for low, high in zip(levels, levels[1:])])


def is_frame(program, value):
    """Return whether the value is a frame of a body of the program."""
    if not isinstance(value, tuple) or len(value) != 5:
        return False
    name, place, left, mask, loops = value
    if not isinstance(name, str) or name not in program.flat:
        return False
    room = room_at(program, name, place)
    if room is None:
        return False
    ticks, most_mask, around = room
    return (
        is_between(left, 1, ticks)
        and is_between(mask, 0, most_mask)
        and are_within(loops, [most - 1 for most in around])
    )


def room_at(program, name, place):
    """Return the ticks, the greatest mask and the loops of a place, or None if it is none."""
    if isinstance(place, str):
        ticks = program.edges.get((name, place), 0)
        return (ticks, 0, ()) if ticks > 0 else None
    places = program.flat[name][1]
    if not is_between(place, 0, len(places) - 1):
        return None
    return places[place][0], MOST_MASK, places[place][2]


def parse_state(program, text):
    """Return the state for the program that is written in a text."""
    words = text.split(" ") if isinstance(text, str) else []
    if len(words) != WORDS:
        raise ParseError(text)
    state = read_state(words)
    if not is_state(program, state):
        raise ParseError(text)
    return state


def read_state(words):
    """Return what eight words tell.

    What is not written as a number remains a text, so that there is no state
    where a number is needed.
    """
    frames, pending, owed, ages, timers, queue, counters, spare = words
    return State(
        tuple([read_frame(word) for word in frames.split("/")]),
        read_numbers(pending, ","),
        read_numbers(owed, ","),
        read_numbers(ages, ","),
        tuple([None if one == "x" else one for one in read_numbers(timers, ",")]),
        tuple(separated(queue, ",")),
        read_numbers(counters, ","),
        read_numbers(spare, ","),
    )


def read_frame(word):
    """Return what the text of a frame tells, or None if it has not five parts."""
    parts = word.split(":")
    if len(parts) != 5:
        return None
    name, place, left, mask, loops = parts
    return name, read_number(place), read_number(left), read_number(mask), read_numbers(loops, ".")


def read_numbers(word, sign):
    """Return the tuple of the numbers that are separated by a sign."""
    return tuple([read_number(one) for one in separated(word, sign)])


def read_number(word):
    """Return the number that is written in a word, or else the word."""
    return int(word) if is_numeral(word) else word


def separated(word, sign):
    """Return the list of what a word separates; `-` has none."""
    return [] if word == "-" else word.split(sign)


def running_level(program, state):
    """Return the running level of a state."""
    if not is_state(program, state):
        raise InvalidState(state)
    return frame_level(program, state.frames[-1])


def frame_level(program, frame):
    """Return the level at which a frame runs."""
    return max(program.levels.get(frame[0], 0), frame[3])

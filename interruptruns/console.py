"""A console: commands in a line each, about a machine and a run of it."""

from interruptruns.certificates import format_choice
from interruptruns.claims import NONE, read_choice
from interruptruns.errors import InvalidCommand, NothingToUndo
from interruptruns.extremes import longest_stretch, loses, most_frames, most_waiting
from interruptruns.formats import parse_program
from interruptruns.lines import read_words
from interruptruns.longest import longest
from interruptruns.machine import Machine
from interruptruns.recurrence import recurrence
from interruptruns.runs import Run, run_along

DONE = "ok"
ENDLESS = "endless"
BETWEEN = "; "


class Console:
    """Performs commands on a machine and a run of it."""

    def __init__(self):
        self.present = None

    def run(self, line):
        """Perform a command and return its answer."""
        word, values = read_command(line)
        if self.present is None and word != "load":
            raise InvalidCommand(line)
        action = ACTIONS[word]
        self.present, answer = action(self.present, values)
        return answer


def read_command(line):
    """Return the first word of a command, and the list of what is told behind it."""
    if not isinstance(line, str) or "\n" in line:
        raise InvalidCommand(line)
    word, *rest = line.split(" ")
    if word not in ACTIONS or "" in rest:
        raise InvalidCommand(line)
    values = read_rest(word, rest)
    if values is None:
        raise InvalidCommand(line)
    return word, values


def read_rest(word, rest):
    """Return the list of what the words behind the first one tell, or None if they are not as they should be."""
    if word == "load":
        return [" ".join(rest)] if rest else None
    values = read_words(rest, FORMS[word])
    if word == "tick" and values is not None:
        choice = read_choice(values)
        return None if choice is None else [choice]
    return values


def load(run, values):
    """Begin a run of a machine of another program."""
    program = parse_program(values[0].replace(BETWEEN, "\n"))
    return Run(Machine(program), ()), DONE


def set_faults(run, values):
    """Begin a run of the machine with other numbers of overruns and of early requests."""
    overruns, early = values
    return Run(Machine(run.machine.program, overruns=overruns, early=early), ()), DONE


def use_tick(run, values):
    """Let the run go on by a tick, and tell its events."""
    step = run.machine.step(run.last, values[0])
    told = [f"{offset} {kind} {name}" for offset, kind, name in step.events]
    return run_along(run.machine, [*run.parts[1], step]), BETWEEN.join(told) or NONE


def take_back(run, values):
    """Take the last tick back."""
    if len(run) == 0:
        raise NothingToUndo()
    return run_along(run.machine, run.parts[1][:-1]), DONE


def tell_state(run, values):
    """Tell the last state."""
    return run, run.last.text


def tell_steps(run, values):
    """Tell the choices that are possible now."""
    steps = run.machine.steps(run.last)
    return run, BETWEEN.join([format_choice(step.choice) for step in steps])


def tell_longest(run, values):
    """Tell the longest time between two patterns."""
    kind, name, last_kind, last_name = values
    question = ((kind, name), (last_kind, last_name))
    return run, number_text(longest(run.machine, question).ticks, ENDLESS)


def tell_time(run, values):
    """Tell the longest time until an answer."""
    return run, number_text(longest(run.machine, values[0]).ticks, ENDLESS)


def tell_recurrence(run, values):
    """Tell the solution of a recurrence."""
    return run, number_text(recurrence(run.machine.program, values[0]), NONE)


def tell_frames(run, values):
    """Tell the greatest number of frames."""
    return run, str(most_frames(run.machine)[0])


def tell_queue(run, values):
    """Tell the greatest number of waiting tasks."""
    return run, str(most_waiting(run.machine)[0])


def tell_loses(run, values):
    """Tell whether requests of a source can be lost."""
    return run, "no" if loses(run.machine, values[0]) is None else "yes"


def tell_stretch(run, values):
    """Tell the longest stretch at a level."""
    return run, number_text(longest_stretch(run.machine, values[0]), ENDLESS)


def number_text(number, none):
    """Return the text of a number, or the text for None."""
    return none if number is None else str(number)


# What is done by each command, and what has to stand behind its first word.
ACTIONS = {
    "load": load, "faults": set_faults, "tick": use_tick, "back": take_back, "state": tell_state,
    "steps": tell_steps, "longest": tell_longest, "time": tell_time, "recurrence": tell_recurrence,
    "frames": tell_frames, "queue": tell_queue, "loses": tell_loses, "stretch": tell_stretch,
}
FORMS = {
    "faults": ("N", "N"), "tick": ("NAME", "NAME", "NAME"), "back": (), "state": (), "steps": (),
    "longest": ("NAME", "NAME", "NAME", "NAME"), "time": ("NAME",), "recurrence": ("NAME",),
    "frames": (), "queue": (), "loses": ("NAME",), "stretch": ("N",),
}

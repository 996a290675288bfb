"""Tests of the console: each command, its answers and its errors."""

import random
import unittest

from drawn import THINGS, any_machine
from interruptruns.certificates import format_choice, parse_choice
from interruptruns.console import Console
from interruptruns.errors import (
    InvalidBody, InvalidChoice, InvalidCommand, InvalidEvent, InvalidName, InvalidNumber, InvalidProgram, NothingToUndo, ParseError, RunError, TooMany,
)
from interruptruns.extremes import longest_stretch, loses, most_frames, most_waiting
from interruptruns.formats import format_program, parse_program
from interruptruns.longest import longest
from interruptruns.machine import Machine
from interruptruns.recurrence import recurrence
from interruptruns.runs import Run
from small import background, machine_of, program_of, source, task

# A plain program, and one with everything.
PLAIN = program_of(source("a", 1, 6, "run 2; answer a"), source("b", 2, 9, "run 3; answer b"))
FULL = program_of("counter c 1", source("a", 1, 3, "run 1; post job; answer a"), source("b", 2, 9, "either; run 1; or; run 2; end; answer b"),
                  task("job", "run 2"), background("run 1; mask 9; run 1; add c"))
COMMANDS = ("faults 0 0", "tick - 0 -", "back", "state", "steps", "longest request a answer a", "time a", "recurrence a", "frames", "queue", "loses a", "stretch 1")
# Lines that are no commands, whatever is there.
WRONG = (
    *THINGS, " ", "  ", "\n", "load", "load ", "load  ", " load a", "load  a", "load a ", "load a  b", "load a\nb", "load\na", "Load a", "LOAD a", "loads a",
    "faults", "faults 0", "faults 0 0 0", "faults  0 0", "faults 0 0 ", " faults 0 0", "faults 0  0", "faults 00 0", "faults 0 01", "faults -1 0", "faults +1 0",
    "faults a b", "faults - -", "faults 0,0", "faults 0 " + "1" * 31, "Faults 0 0", "faults 0 0\n", "faults 0\n0",
    "tick", "tick -", "tick - 0", "tick - 0 - -", "tick  - 0 -", "tick - 0 - ", " tick - 0 -", "tick - 2 -", "tick - 00 -", "tick - - -", "tick - 0 2", "tick - 0 0-",
    "tick , 0 -", "tick a, 0 -", "tick ,a 0 -", "tick a,,b 0 -", "tick a b 0 -", "tick - x -", "tick - 0 x", "Tick - 0 -", "tick - 0 -\n", "tick - 0 --", "tick a, b 0 -",
    "back 1", "back ", " back", "Back", "back\n", "back -", "state 1", "state ", " state", "State", "state\n", "states", "steps 1", "steps ", " steps", "step", "STEPS",
    "longest", "longest a", "longest request a", "longest request a answer", "longest request a answer a b", "longest  request a answer a",
    "longest request a to answer a", "longest request a answer a ", "longest request  a answer a", "Longest request a answer a", "longest request a answer a\n",
    "time", "time a b", "time ", "time  a", "time a ", " time a", "Time a", "time a\n", "time\na", "times a",
    "recurrence", "recurrence a b", "recurrence ", "recurrence  a", "recurrence a ", "Recurrence a", "frames 1", "frames ", " frames", "Frames", "frame", "frames\n",
    "queue 1", "queue ", " queue", "Queue", "queues", "loses", "loses a b", "loses ", "loses  a", "loses a ", "Loses a", "lose a",
    "stretch", "stretch a", "stretch 1 2", "stretch ", "stretch  1", "stretch 1 ", "stretch 01", "stretch -1", "stretch +1", "stretch " + "1" * 31, "Stretch 1",
    "stretch 1\n", "help", "quit", "main", "run", "reset", "redo", "undo", "a 0 -", "; ", "load;", "program", b"state", ["state"], ("state",), {"state": 1},
)


def loading(program):
    return "load " + format_program(program).replace("\n", "; ")


class ConsoleCase(unittest.TestCase):
    def setUp(self):
        self.console = Console()

    def load(self, program, faults=(0, 0)):
        """Load a program, and keep a run of it for comparison."""
        self.assertEqual(self.console.run(loading(program)), "ok")
        if faults != (0, 0):
            self.assertEqual(self.console.run(f"faults {faults[0]} {faults[1]}"), "ok")
        self.own = Run(Machine(program, overruns=faults[0], early=faults[1]), [])

    def tick(self, text):
        """Use a tick, and compare its answer."""
        step = self.own.machine.step(self.own.last, parse_choice(text))
        told = "; ".join(f"{offset} {kind} {name}" for offset, kind, name in step.events) or "-"
        self.assertEqual(self.console.run("tick " + text), told)
        self.own = self.own.more([step.choice])
        self.same()

    def same(self):
        """The console has the same run."""
        self.assertEqual(self.console.run("state"), self.own.last.text)
        choices = [format_choice(step.choice) for step in self.own.machine.steps(self.own.last)]
        self.assertEqual(self.console.run("steps"), "; ".join(choices))

    def refused(self, error, value, line):
        with self.assertRaises(error) as caught:
            self.console.run(line)
        self.assertIs(type(caught.exception), error)
        self.assertEqual(caught.exception.line if error is ParseError else caught.exception.value, value)


class RunTests(ConsoleCase):
    def test_the_example(self):
        text = "source a level 1 gap 2 keep 1 enter 0 leave 0\nrun 1\nanswer a\nend\nbackground\nrun 1\nend"
        lines = ["load " + text.replace("\n", "; "), "tick a 0 -", "state", "time a", "recurrence a", "frames"]
        self.assertEqual([self.console.run(line) for line in lines],
                         ["ok", "0 request a; 0 enter a; 1 answer a; 1 leave a", "main:0:1:0:- 0 0 0 x - - 0,0", "1", "1", "2"])

    def test_a_run(self):
        self.load(PLAIN)
        self.assertEqual(self.console.run("state"), "main:0:1:0:- 0,0 0,0 6,9 x,x - - 0,0")
        self.assertEqual(self.console.run("steps"), "- 0 -; a 0 -; a,b 0 -; b 0 -")
        self.assertEqual(self.console.run("tick - 0 -"), "-")
        self.assertEqual(self.console.run(line="tick a,b 0 -"), "0 request a; 0 request b; 0 enter b")
        self.assertEqual(self.console.run("steps"), "- 0 -")
        self.assertEqual(self.console.run("tick - 0 -"), "-")
        self.assertEqual(self.console.run("tick - 0 -"), "1 answer b; 1 leave b")
        self.assertEqual(self.console.run("tick - 0 -"), "0 enter a")
        self.assertEqual(self.console.run("state"), "main:0:1:0:-/a:0:1:0:- 0,0 1,0 3,3 x,x - - 0,0")

    def test_back(self):
        self.load(PLAIN)
        self.refused_back()
        for text in ("a 0 -", "b 0 -", "- 0 -"):
            self.tick(text)
        for many in (2, 1, 0):
            self.assertEqual(self.console.run("back"), "ok")
            self.own = Run(self.own.machine, self.own.choices[:many])
            self.same()
        self.refused_back()
        self.tick("b 0 -")
        self.assertEqual(self.console.run("back"), "ok")
        self.refused_back()

    def refused_back(self):
        for _ in "ab":
            with self.assertRaises(NothingToUndo):
                self.console.run("back")

    def test_ways_and_overruns(self):
        self.load(FULL, (1, 1))
        for text in ("a,b 0 1", "- 1 -", "- 0 -", "b 0 0", "- 0 -", "a 0 -"):
            self.tick(text)

    def test_load_begins_anew(self):
        self.load(PLAIN)
        self.tick("a 0 -")
        self.load(PLAIN)
        self.same()
        self.refused_back()
        self.tick("b 0 -")
        self.load(FULL)
        self.same()
        self.refused_back()

    def test_faults_begin_anew(self):
        self.load(PLAIN)
        self.tick("a 0 -")
        self.assertEqual(self.console.run("faults 2 3"), "ok")
        self.assertEqual(self.console.run("state"), "main:0:1:0:- 0,0 0,0 6,9 x,x - - 2,3")
        self.refused_back()
        self.own = Run(Machine(PLAIN, overruns=2, early=3), [])
        for text in ("- 1 -", "a 0 -", "a 0 -", "- 0 -"):
            self.tick(text)
        # They do not add up, and are those of the next runs.
        self.assertEqual(self.console.run("faults 0 1"), "ok")
        self.own = Run(Machine(PLAIN, early=1), [])
        self.same()
        # A program has none at first.
        self.load(PLAIN)
        self.same()
        self.assertEqual(self.console.run("state"), "main:0:1:0:- 0,0 0,0 6,9 x,x - - 0,0")

    def test_two_consoles(self):
        other = Console()
        self.load(PLAIN)
        with self.assertRaises(InvalidCommand):
            other.run("state")
        other.run(loading(FULL))
        other.run("tick - 0 -")
        self.same()

    def test_any_runs(self):
        rng = random.Random(20)
        for _ in range(25):
            machine = any_machine(rng, 300)
            self.load(machine.program, (machine.overruns, machine.early))
            self.assertEqual(self.own.machine, machine)
            for _ in range(15):
                if rng.random() < 0.2 and len(self.own):
                    self.assertEqual(self.console.run("back"), "ok")
                    self.own = Run(machine, self.own.choices[:-1])
                    self.same()
                else:
                    self.tick(rng.choice(self.console.run("steps").split("; ")))


class AnswerTests(ConsoleCase):
    PROGRAMS = (
        (PLAIN, (0, 0)), (PLAIN, (1, 1)), (FULL, (0, 0)), (FULL, (0, 1)),
        # Never answered, lost, and always masked.
        (program_of(source("a", 1, 3, "run 2"), source("b", 2, 9, "run 3; answer b")), (0, 0)),
        (program_of(source("a", 1, 2, "run 2; answer a"), source("b", 2, 2, "run 2; answer b"), background("mask 9; run 1")), (0, 0)),
    )

    def answer(self, value, none):
        return none if value is None else str(value)

    def test_the_same_as_the_functions(self):
        seen = set()
        for program, faults in self.PROGRAMS:
            self.load(program, faults)
            machine = self.own.machine
            for name in "ab":
                told = {
                    f"time {name}": self.answer(longest(machine, name).ticks, "endless"),
                    f"longest enter {name} leave {name}": self.answer(longest(machine, (("enter", name), ("leave", name))).ticks, "endless"),
                    f"longest asked a lost {name}": self.answer(longest(machine, (("asked", "a"), ("lost", name))).ticks, "endless"),
                    f"loses {name}": "no" if loses(machine, name) is None else "yes",
                    "frames": str(most_frames(machine)[0]), "queue": str(most_waiting(machine)[0]),
                }
                if program is not FULL and ("answer", name) in program.body_of(name) and ("answer", "a") in program.body_of("a"):
                    told[f"recurrence {name}"] = self.answer(recurrence(program, name), "-")
                for level in range(10):
                    told[f"stretch {level}"] = self.answer(longest_stretch(machine, level), "endless")
                for line, answer in told.items():
                    self.assertEqual(self.console.run(line), answer)
                    seen.add((line.split(" ")[0], answer if answer in ("endless", "-", "yes", "no", "0") else "number"))
            self.same()
        for kind in (("time", "endless"), ("time", "number"), ("longest", "endless"), ("longest", "number"), ("recurrence", "-"), ("recurrence", "number"),
                     ("loses", "yes"), ("loses", "no"), ("stretch", "endless"), ("stretch", "number"), ("stretch", "0"), ("queue", "0"), ("queue", "number")):
            self.assertIn(kind, seen)

    def test_by_hand(self):
        self.load(PLAIN)
        for line, answer in (("time a", "5"), ("time b", "3"), ("recurrence a", "5"), ("recurrence b", "3"), ("frames", "3"), ("queue", "0"), ("loses a", "no"),
                             ("stretch 0", "endless"), ("stretch 1", "5"), ("stretch 2", "3"), ("stretch 3", "0"), ("longest enter a answer a", "5"),
                             ("longest request a enter a", "3"), ("longest enter b enter b", "endless"), ("longest answer a leave a", "0")):
            self.assertEqual(self.console.run(line), answer)

    def test_the_run_means_nothing_to_them(self):
        self.load(PLAIN)
        before = [self.console.run(line) for line in ("time a", "frames", "stretch 1", "loses a")]
        self.tick("a,b 0 -")
        self.assertEqual([self.console.run(line) for line in ("time a", "frames", "stretch 1", "loses a")], before)
        self.same()

    def test_recurrence_is_without_faults(self):
        self.load(PLAIN, (3, 3))
        self.assertEqual(self.console.run("recurrence a"), "5")


class ErrorTests(ConsoleCase):
    def everything_refused(self):
        for line in WRONG:
            with self.assertRaises(InvalidCommand) as caught:
                self.console.run(line)
            self.assertIs(caught.exception.value, line)

    def test_lines_that_are_no_commands(self):
        self.everything_refused()
        self.load(PLAIN)
        self.tick("a 0 -")
        self.everything_refused()
        self.same()

    def test_before_a_program_is_there(self):
        for _ in "ab":
            for line in (*COMMANDS, "faults 9 9", "time x", "tick x 1 1", "stretch 10", "longest a b c d"):
                self.refused(InvalidCommand, line, line)
            with self.assertRaises(ParseError):
                self.console.run("load nothing")
        self.load(PLAIN)
        self.tick("b 0 -")
        for line in COMMANDS[2:]:
            self.console.run(line)

    def test_texts_that_are_no_programs(self):
        right = loading(PLAIN)
        wrong = ["load a", "load ;", "load background", "load background;", "load background; run 1", "load background; run 1; end", right + ";", right + "; end",
                 right.replace("gap 6", "gap 06"), right.replace("source a", "source A"), right.replace("gap 6", "gap 51"), right.replace("run 2", "run 21"),
                 right.replace("answer a", "answer x"), right.replace("source b", "source a"), right.replace("; ", " ; "), right.replace("; ", ";"),
                 "load " + right, right.replace("run 1", "run 1 1")]
        errors = set()
        for loaded in (False, True):
            if loaded:
                self.load(PLAIN, (1, 2))
                self.tick("a 0 -")
            for line in wrong:
                with self.assertRaises(RunError) as expected:
                    parse_program(line[5:].replace("; ", "\n"))
                error = type(expected.exception)
                self.refused(error, expected.exception.line if error is ParseError else expected.exception.value, line)
                errors.add(error)
                if loaded:
                    self.same()
        self.assertEqual(errors, {ParseError, InvalidName, InvalidNumber, InvalidBody, InvalidProgram})

    def test_the_index_of_the_wrong_line(self):
        self.refused(ParseError, 0, "load ;")
        self.refused(ParseError, 1, "load background; x; run 1; end")
        self.refused(ParseError, 2, "load background; run 1")

    def test_errors_change_nothing(self):
        self.load(PLAIN, (0, 1))
        self.tick("a 0 -")
        for error, value, line in (
            (InvalidNumber, 4, "faults 4 0"), (InvalidNumber, 4, "faults 3 4"), (InvalidNumber, 10 ** 29, f"faults 0 {10 ** 29}"),
            (InvalidChoice, (("x",), False, ()), "tick x 0 -"), (InvalidChoice, (("b", "a"), False, ()), "tick b,a 0 -"), (InvalidChoice, ((), True, ()), "tick - 1 -"),
            (InvalidChoice, ((), False, (True, False)), "tick - 0 10"), (InvalidChoice, (("A", "-"), True, (False,)), "tick A,- 1 0"),
            (InvalidEvent, (("none", "a"), ("answer", "a")), "longest none a answer a"), (InvalidEvent, (("request", "a"), ("answer", "x")), "longest request a answer x"),
            (InvalidEvent, (("post", "a"), ("answer", "a")), "longest post a answer a"), (InvalidEvent, "x", "time x"), (InvalidEvent, "main", "time main"), (InvalidEvent, "A", "time A"),
            (InvalidName, "x", "recurrence x"), (InvalidName, "main", "recurrence main"), (InvalidName, "0", "recurrence 0"), (InvalidName, "x", "loses x"),
            (InvalidName, "main", "loses main"), (InvalidNumber, 10, "stretch 10"), (InvalidNumber, 10 ** 29, f"stretch {10 ** 29}"),
        ):
            self.refused(error, value, line)
            self.same()
        self.assertEqual(self.console.run("back"), "ok")
        with self.assertRaises(NothingToUndo):
            self.console.run("back")
        self.assertEqual(self.console.run("state"), "main:0:1:0:- 0,0 0,0 6,9 x,x - - 0,1")

    def test_programs_that_are_not_plain(self):
        self.load(FULL)
        for name in ("a", "b", "x", "job"):
            with self.assertRaises(InvalidProgram) as caught:
                self.console.run(f"recurrence {name}")
            self.assertEqual(caught.exception.value, FULL)
        self.refused(InvalidName, "job", "loses job")
        self.refused(InvalidEvent, "job", "time job")

    def test_too_many_states(self):
        self.load(program_of(source("a", 1, 50, "run 1; answer a"), source("b", 2, 50, "run 1; answer b"), background("run 3")))
        self.tick("a 0 -")
        for line in ("time a", "longest request a answer a", "frames", "queue", "loses a", "stretch 1"):
            with self.assertRaises(TooMany) as caught:
                self.console.run(line)
            self.assertEqual(caught.exception.limit, 5000)
            self.same()
        self.assertEqual(self.console.run("recurrence a"), "2")


if __name__ == "__main__":
    unittest.main()

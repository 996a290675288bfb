"""Tests of states: their texts, which ones there are for a program, and reading them."""

import unittest

from interruptruns.errors import InvalidState, ParseError
from interruptruns.programs import Program
from interruptruns.states import State, is_state, parse_state, running_level
from small import background, program_of, source, task

PARTS = ("frames", "pending", "owed", "ages", "timers", "queue", "counters", "spare")

# Places of main: 0 is the first run, 1 is in two loops, 2 in one, 3 in an either.
PROGRAM = program_of(
    "counter c 2; counter d 5",
    source("low", 2, 7, "run 4; answer low", keep=2, enter=3, leave=2),
    source("mid", 5, 50, "loop 3; run 1; end; run 2", keep=3, enter=0, leave=1),
    source("alike", 5, 1, "run 1"),
    source("empty", 9, 9, "", leave=5),
    task("job", "run 20"),
    task("work", "run 1; either; run 2; or; end; loop 2; run 2; end"),
    background("run 6; loop 4; loop 2; run 1; end; run 3; end; either; run 2; or; run 1; end"),
)

RIGHT = {
    "frames": (("main", 0, 6, 0, ()),),
    "pending": (0, 0, 0, 0),
    "owed": (0, 0, 0, 0),
    "ages": (7, 50, 1, 9),
    "timers": (None, None, None, None),
    "queue": (),
    "counters": (0, 0),
    "spare": (0, 0),
}

MAIN = ("main", 0, 6, 0, ())
JOB = ("job", 0, 20, 0, ())
LOW = ("low", 0, 4, 0, ())
MID = ("mid", 1, 2, 0, ())
ALIKE = ("alike", 0, 1, 0, ())
EMPTY = ("empty", "out", 5, 0, ())


def made(**parts):
    return State(**{**RIGHT, **parts})


class StateTests(unittest.TestCase):
    def test_arguments_are_kept_as_they_are(self):
        things = [object(), [], {}, "text", None, 5, (), {1}]
        for state in (State(*things), State(**dict(zip(PARTS, things)))):
            for name, thing in zip(PARTS, things):
                self.assertIs(getattr(state, name), thing)

    def test_later_changes_of_arguments_are_seen(self):
        frames = []
        state = made(frames=frames)
        frames.append(1)
        self.assertEqual(state.frames, [1])

    def test_properties_cannot_be_assigned(self):
        state = made()
        for name in (*PARTS, "text"):
            with self.assertRaises(AttributeError):
                setattr(state, name, ())

    def test_text(self):
        self.assertEqual(
            made().text, "main:0:6:0:- 0,0,0,0 0,0,0,0 7,50,1,9 x,x,x,x - 0,0 0,0"
        )
        state = State(
            (("main", 1, 1, 9, (3, 0)), ("job", 0, 12, 3, ()), ("low", "in", 3, 0, ()),
             ("mid", 0, 1, 5, (2,)), ("empty", "out", 5, 0, ())),
            (2, 3, 1, 0), (6, 5, 1, 0), (0, 50, 1, 9), (0, None, 50, 7),
            ("job", "work", "job"), (2, 5), (3, 12),
        )
        self.assertEqual(
            state.text,
            "main:1:1:9:3.0/job:0:12:3:-/low:in:3:0:-/mid:0:1:5:2/empty:out:5:0:- "
            "2,3,1,0 6,5,1,0 0,50,1,9 0,x,50,7 job,work,job 2,5 3,12",
        )

    def test_text_of_empty_parts(self):
        self.assertEqual(State((), (), (), (), (), (), (), ()).text, "- - - - - - - -")

    def test_text_of_a_great_number(self):
        many = 10 ** 29
        self.assertTrue(made(spare=(many, 0)).text.endswith(f" {many},0"))

    def test_equality_is_that_of_texts(self):
        self.assertEqual(made(), made())
        self.assertFalse(made() != made())
        others = {
            "frames": (("main", 0, 5, 0, ()),), "pending": (0, 0, 0, 1), "owed": (1, 0, 0, 0),
            "ages": (7, 49, 1, 9), "timers": (None, None, 0, None), "queue": ("job",),
            "counters": (1, 0), "spare": (0, 1),
        }
        self.assertEqual(sorted(others), sorted(PARTS))
        for name, value in others.items():
            self.assertNotEqual(made(), made(**{name: value}), name)
            self.assertEqual(made(**{name: value}), made(**{name: value}), name)

    def test_not_equal_to_other_objects(self):
        for other in (made().text, None, tuple(RIGHT.values()), 0, object()):
            self.assertFalse(made() == other)
            self.assertTrue(made() != other)


class IsStateTests(unittest.TestCase):
    def check(self, right, **parts):
        found = is_state(PROGRAM, made(**parts))
        self.assertIs(found, right, parts)

    def test_right_states(self):
        self.check(True)
        self.check(
            True,
            frames=(("main", 1, 1, 9, (3, 1)), JOB, ("low", "in", 3, 0, ()), MID, EMPTY),
            pending=(2, 3, 1, 1), owed=(6, 6, 6, 6), ages=(0, 0, 0, 0),
            timers=(0, 50, None, 1), queue=("job", "job", "work", "job"), counters=(2, 5),
            spare=(10 ** 29, 17),
        )

    def test_values_that_are_no_states(self):
        values = [
            None, 0, True, "", made().text, (), tuple(RIGHT.values()), [], {}, RIGHT, object(),
            State, PROGRAM,
        ]
        for value in values:
            self.assertIs(is_state(PROGRAM, value), False)

    def test_parts_of_other_kinds(self):
        for name in PARTS:
            right = RIGHT[name]
            wrong = [None, 0, True, "", "main", "job", {}, {1: 2}, list(right), object(), made(),
                     (object(),), ([],), ((),), (None, object()), (1, 2, 3)]
            for value in wrong:
                self.check(False, **{name: value})

    def test_a_state_of_another_program(self):
        other = Program(PROGRAM.sources[:3], PROGRAM.background, tasks=PROGRAM.tasks,
                        counters=PROGRAM.counters)
        self.assertIs(is_state(other, made()), False)

    def test_frames_are_in_order(self):
        right = [
            (MAIN,), (MAIN, JOB), (MAIN, LOW), (MAIN, JOB, LOW), (MAIN, LOW, MID, EMPTY),
            (MAIN, ("work", 0, 1, 0, ()), LOW, ALIKE, EMPTY), (MAIN, EMPTY), (MAIN, JOB, MID),
        ]
        wrong = [
            (), (JOB,), (LOW,), (LOW, MAIN), (MAIN, MAIN), (MAIN, JOB, MAIN), (MAIN, LOW, MAIN),
            (MAIN, JOB, JOB), (MAIN, JOB, ("work", 0, 1, 0, ())), (MAIN, LOW, JOB),
            (MAIN, LOW, LOW), (MAIN, MID, LOW), (MAIN, MID, ALIKE), (MAIN, ALIKE, MID),
            (MAIN, EMPTY, LOW), (MAIN, LOW, EMPTY, MID), (JOB, LOW), (MAIN, JOB, MID, LOW),
        ]
        for frames in right:
            self.check(True, frames=frames)
        for frames in wrong:
            self.check(False, frames=frames)

    def test_names_of_frames(self):
        for name in ("", "c", "none", "Main", "in", None, 0, True, ["main"], ("main",), object()):
            self.check(False, frames=((name, 0, 1, 0, ()),))
            self.check(False, frames=(MAIN, (name, 0, 1, 0, ())))

    def test_forms_of_frames(self):
        wrong = [
            (), ("main",), ("main", 0, 6, 0), ("main", 0, 6, 0, (), ()), ["main", 0, 6, 0, ()],
            "main:0:6:0:-", None, 7, {}, ("main", 0, 6, 0, []), ("main", 0, 6, 0, None),
            ("main", 0, 6, 0, 0), ("main", 0, 6, 0, ""),
        ]
        for frame in wrong:
            self.check(False, frames=(frame,))
            self.check(False, frames=(MAIN, frame))

    def test_places(self):
        for place, left, loops in ((0, 6, ()), (1, 1, (0, 0)), (2, 3, (0,)), (3, 2, ()), (4, 1, ())):
            self.check(True, frames=(("main", place, left, 0, loops),))
            self.check(True, frames=(("main", place, 1, 0, loops),))
            for wrong in (left + 1, 0, -1, True, None, "1", (1,), []):
                self.check(False, frames=(("main", place, wrong, 0, loops),))
        for place in (-1, 5, 100, True, False, None, "0", "", "In", "in", "out", (0,), [], object()):
            self.check(False, frames=(("main", place, 1, 0, ()),))

    def test_in_and_out(self):
        for name, place, most in (("low", "in", 3), ("low", "out", 2), ("mid", "out", 1), ("empty", "out", 5)):
            for left in range(1, most + 1):
                self.check(True, frames=(MAIN, (name, place, left, 0, ())))
            for left in (0, most + 1, True):
                self.check(False, frames=(MAIN, (name, place, left, 0, ())))
            for mask in (1, 9, -1, False):
                self.check(False, frames=(MAIN, (name, place, 1, mask, ())))
            for loops in ((0,), (1,), None, []):
                self.check(False, frames=(MAIN, (name, place, 1, 0, loops)))
        for name, place in (("mid", "in"), ("alike", "in"), ("alike", "out"), ("empty", "in"),
                            ("job", "in"), ("job", "out"), ("empty", 0)):
            self.check(False, frames=(MAIN, (name, place, 1, 0, ())))

    def test_masks(self):
        for mask in range(10):
            self.check(True, frames=(("main", 0, 1, mask, ()),))
            self.check(True, frames=(MAIN, ("low", 0, 1, mask, ())))
        for mask in (-1, 10, True, False, None, "1", (1,)):
            self.check(False, frames=(("main", 0, 1, mask, ()),))

    def test_loops(self):
        for loops in ((0, 0), (3, 1), (0, 1), (3, 0)):
            self.check(True, frames=(("main", 1, 1, 0, loops),))
        for loops in ((4, 0), (0, 2), (-1, 0), (0, -1), (0,), (), (0, 0, 0), [0, 0], (True, 0),
                      (0, False), (None, 0), ("0", "0"), None):
            self.check(False, frames=(("main", 1, 1, 0, loops),))
        for loops in ((0,), (3,)):
            self.check(True, frames=(("main", 2, 1, 0, loops),))
        for loops in ((4,), (-1,), (), (0, 0)):
            self.check(False, frames=(("main", 2, 1, 0, loops),))
        self.check(True, frames=(MAIN, ("mid", 0, 1, 0, (2,))))
        self.check(False, frames=(MAIN, ("mid", 0, 1, 0, (3,))))
        self.check(False, frames=(("main", 3, 1, 0, (0,)),))

    def test_rows_of_counts(self):
        bounds = {"pending": (2, 3, 1, 1), "owed": (6, 6, 6, 6), "ages": (7, 50, 1, 9),
                  "timers": (50, 50, 50, 50), "counters": (2, 5)}
        for name, mosts in bounds.items():
            self.check(True, **{name: mosts})
            self.check(True, **{name: (0,) * len(mosts)})
            self.check(False, **{name: mosts[:-1]})
            self.check(False, **{name: (*mosts, 0)})
            self.check(False, **{name: ()})
            for at, most in enumerate(mosts):
                for wrong in (most + 1, -1, True, False, "0", (0,), object()):
                    self.check(False, **{name: (*mosts[:at], wrong, *mosts[at + 1:])})
                if name != "timers":
                    self.check(False, **{name: (*mosts[:at], None, *mosts[at + 1:])})

    def test_queues(self):
        for queue in (("job",), ("work", "work", "job", "work")):
            self.check(True, queue=queue)
        for queue in (("job",) * 5, ("low",), ("main",), ("c",), ("",), (None,), (0,), ["job"],
                      (["job"],), ("job", "none")):
            self.check(False, queue=queue)

    def test_spare(self):
        for spare in ((0, 0), (3, 0), (0, 4), (10 ** 20, 10 ** 29)):
            self.check(True, spare=spare)
        for spare in ((), (0,), (0, 0, 0), (-1, 0), (0, -1), (True, 0), (0, False), (None, 0),
                      ("0", "0"), [0, 0]):
            self.check(False, spare=spare)

    def test_owed_and_kept_ones_do_not_depend_on_each_other(self):
        self.check(True, pending=(2, 3, 1, 1), owed=(0, 0, 0, 0))


class ParseStateTests(unittest.TestCase):
    TEXT = ("main:1:1:9:3.1/job:0:20:0:-/low:in:3:0:-/mid:0:1:5:2/empty:out:5:0:- "
            "2,3,1,0 6,5,1,0 0,50,1,9 0,x,50,7 job,work,job 2,5 3,12")
    SHORT = "main:0:6:0:- 0,0,0,0 0,0,0,0 7,50,1,9 x,x,x,x - 0,0 0,0"

    def check_refused(self, text):
        with self.assertRaises(ParseError) as caught:
            parse_state(PROGRAM, text)
        self.assertIs(caught.exception.line, text)

    def test_read_back(self):
        for text in (self.TEXT, self.SHORT):
            state = parse_state(PROGRAM, text)
            self.assertIs(is_state(PROGRAM, state), True)
            self.assertEqual(state.text, text)
        self.assertEqual(
            parse_state(PROGRAM, self.TEXT).frames,
            (("main", 1, 1, 9, (3, 1)), JOB, ("low", "in", 3, 0, ()), ("mid", 0, 1, 5, (2,)), EMPTY),
        )
        self.assertEqual(parse_state(PROGRAM, self.TEXT).timers, (0, None, 50, 7))
        self.assertEqual(parse_state(PROGRAM, self.SHORT).queue, ())
        self.assertEqual(parse_state(PROGRAM, self.SHORT).parts, made().parts)

    def test_by_name(self):
        self.assertEqual(parse_state(program=PROGRAM, text=self.SHORT), made())

    def test_words(self):
        words = self.SHORT.split(" ")
        for at in range(8):
            self.check_refused(" ".join(words[:at] + words[at + 1:]))
            self.check_refused(" ".join(words[:at] + [""] + words[at:]))
            self.check_refused(" ".join(words[:at] + ["-"] + words[at:]))
            for wrong in ("", "?", "none", "0,0,0,0,0,0", ",", "0,", ",0", "--", "-,-", "x,"):
                self.check_refused(" ".join(words[:at] + [wrong] + words[at + 1:]))
        for text in ("", " ", "-", self.SHORT + " ", " " + self.SHORT, self.SHORT + "\n",
                     self.SHORT.replace(" ", "\n"), self.SHORT.replace(" ", "  "), self.SHORT + " 0"):
            self.check_refused(text)

    def test_numbers(self):
        for old, new in (
            ("0,0,0,0 0", "00,0,0,0 0"), ("main:0", "main:00"), ("main:0", "main:+0"), (":6:", ":06:"),
            (":6:", ":-6:"), (":0:-", ":00:-"), ("7,", "07,"), ("7,", "7.0,"), ("x,x", "x,00"),
            ("x,x", "X,x"), ("- 0,0 ", "- 0,00 "), ("7,50", "7,5_0"), ("7,", " 7,"),
            ("main:0:6", "main::6"), ("main:0:6", "main:0"), (":-", ":"), (":-", ":-:-"), (":-", ":0"),
            ("main", "Main"), ("main", ""), ("main", "job"), ("x,x,x,x", "-"), ("7,50,1,9", "7,50,1,x"),
        ):
            self.assertIn(old, self.SHORT)
            self.check_refused(self.SHORT.replace(old, new, 1))

    def test_long_numbers(self):
        head = self.SHORT[:-3]
        self.assertEqual(parse_state(PROGRAM, head + "0," + "9" * 30).spare, (0, 10 ** 30 - 1))
        self.check_refused(head + "0,1" + "0" * 30)
        self.check_refused(head + "0" * 31 + ",0")
        self.check_refused(head + "00,0")

    def test_places_that_are_not_there(self):
        for frame in ("main:5:1:0:-", "main:in:1:0:-", "main:out:1:0:-", "main:0:7:0:-",
                      "main:0:0:0:-", "main:0:1:10:-", "main:1:1:0:-", "main:1:1:0:3", "main:1:1:0:3.2",
                      "main:1:1:0:03.0", "main:1:1:0:3,0", "main:1:1:0:3.", "main:1:1:0:x.0",
                      "main:0:1:0:-/", "/main:0:1:0:-", "main:0:1:0:-/main:0:1:0:-",
                      "main:0:1:0:-/mid:in:1:0:-", "main:0:1:0:-/low:in:1:1:-"):
            self.check_refused(self.SHORT.replace("main:0:6:0:-", frame))

    def test_no_texts(self):
        for value in (None, 0, True, [], (), {}, made(), b"main", self.SHORT.split(" "), object()):
            self.check_refused(value)

    def test_a_source_called_like_a_sign(self):
        program = program_of(source("x", 1, 2, "run 1"), task("in", "run 1"))
        text = "main:0:1:0:-/in:0:1:0:-/x:0:1:0:- 0 0 2 x in,in - 0,0"
        state = parse_state(program, text)
        self.assertEqual((state.queue, state.timers), (("in", "in"), (None,)))
        self.assertEqual(state.text, text)


class RunningLevelTests(unittest.TestCase):
    def test_levels_and_masks(self):
        for frames, level in (
            ((MAIN,), 0), ((("main", 0, 1, 9, ()),), 9), ((MAIN, JOB), 0),
            ((MAIN, ("job", 0, 1, 4, ())), 4), ((("main", 0, 1, 9, ()), JOB), 0),
            ((MAIN, LOW), 2), ((MAIN, ("low", 0, 1, 1, ())), 2), ((MAIN, ("low", 0, 1, 2, ())), 2),
            ((MAIN, ("low", 0, 1, 3, ())), 3), ((MAIN, LOW, MID), 5),
            ((MAIN, ("low", 0, 1, 9, ()), MID), 5), ((MAIN, ("low", "in", 1, 0, ())), 2),
            ((MAIN, EMPTY), 9),
        ):
            found = running_level(PROGRAM, made(frames=frames))
            self.assertEqual((found, isinstance(found, bool)), (level, False))

    def test_invalid_states(self):
        for value in (None, "main", made().text, made(frames=()), made(spare=(0,)), [], object()):
            with self.assertRaises(InvalidState) as caught:
                running_level(PROGRAM, value)
            self.assertIs(caught.exception.value, value)

    def test_by_name(self):
        self.assertEqual(running_level(program=PROGRAM, state=made()), 0)


if __name__ == "__main__":
    unittest.main()

"""Tests of what changes of programs change: names, longest times, and tables."""

import itertools
import random
import unittest

from drawn import THINGS, any_body, any_machine
from interruptruns.changes import changed, grown, kept
from interruptruns.errors import InvalidName, InvalidNumber, InvalidProgram, ParseError, TooMany
from interruptruns.longest import longest
from interruptruns.machine import Machine
from interruptruns.programs import Program, Source
from interruptruns.states import parse_state
from second_waits import all_pairs, wait_behind
from small import background, program_of, source, task

PARTS = {"counter": "counter x 1", "a": source("a", 1, 6, "run 2; answer a"), "b": source("b", 2, 9, "run 3; answer b"),
         "job": task("job", "run 1"), "work": task("work", "run 2"), "main": background("run 1")}
PROGRAM = program_of(*PARTS.values())


def with_parts(**parts):
    """The program with other parts."""
    return program_of(*{**PARTS, **parts}.values())


# Programs that differ from it in more than bodies.
OTHERS = (
    with_parts(a=source("c", 1, 6, "run 2; answer c")), with_parts(a=source("a", 3, 6, "run 2; answer a")),
    with_parts(a=source("a", 1, 7, "run 2; answer a")), with_parts(a=source("a", 1, 6, "run 2; answer a", keep=2)),
    with_parts(b=source("b", 2, 9, "run 3; answer b", enter=1)), with_parts(b=source("b", 2, 9, "run 3; answer b", leave=1)),
    with_parts(a=PARTS["b"], b=PARTS["a"]), program_of(*list(PARTS.values())[:2], *list(PARTS.values())[3:]),
    with_parts(job=task("jobs", "run 1")), with_parts(job=PARTS["work"], work=PARTS["job"]), with_parts(counter="counter x 2"),
    with_parts(counter="counter y 1"), program_of(*list(PARTS.values())[1:]), program_of(*list(PARTS.values())[:3]),
    program_of("counter y 1", *PARTS.values()), program_of(*list(PARTS.values())[:-1], task("more", "run 1"), PARTS["main"]),
    program_of(*list(PARTS.values())[:3], source("c", 3, 9, "run 1"), *list(PARTS.values())[3:]),
)


class ChangedTests(unittest.TestCase):
    def test_each_body_alone_and_several(self):
        bodies = {"a": (("run", 5),), "b": (("run", 3), ("answer", "a")), "job": (("run", 2),), "work": (("run", 2), ("add", "x")),
                  "main": (("run", 2),)}
        for many in range(6):
            for names in itertools.combinations(("a", "b", "job", "work", "main"), many):
                program = PROGRAM
                for name in reversed(names):
                    program = program.replaced(name, bodies[name])
                self.assertEqual(changed(PROGRAM, program), names)
                self.assertEqual(changed(first=program, second=PROGRAM), names)

    def test_none(self):
        self.assertEqual(changed(PROGRAM, PROGRAM), ())
        self.assertEqual(changed(PROGRAM, with_parts()), ())

    def test_the_order_is_that_of_the_program(self):
        first = program_of(source("z", 1, 6, "run 1"), source("a", 2, 6, "run 1"), task("y", "run 1"), task("b", "run 1"))
        second = program_of(source("z", 1, 6, "run 2"), source("a", 2, 6, "run 2"), task("y", "run 2"), task("b", "run 2"), background("run 2"))
        self.assertEqual(changed(first, second), ("z", "a", "y", "b", "main"))

    def test_more_than_bodies(self):
        for second in OTHERS:
            for first, other in ((PROGRAM, second), (second, PROGRAM), (PROGRAM.replaced("a", (("run", 1),)), second)):
                for call in (changed, grown, lambda one, two: kept(one, two, "a"), lambda one, two: kept(one, two, None, None)):
                    with self.assertRaises(InvalidProgram) as caught:
                        call(first, other)
                    self.assertIs(caught.exception.value, other)

    def test_what_is_no_program(self):
        for second in (*THINGS, Program, PROGRAM.sources, PROGRAM.background, Machine(PROGRAM)):
            for call in (changed, grown, lambda one, two: grown(one, two, 0), lambda one, two: kept(one, two, "a"),
                         lambda one, two: kept(one, two, "x", 0)):
                with self.assertRaises(InvalidProgram) as caught:
                    call(PROGRAM, second)
                self.assertIs(caught.exception.value, second)


class GrownTests(unittest.TestCase):
    FIRST = Program([Source("a", 1, 6, (("run", 2), ("answer", "a"))), Source("b", 2, 9, (("run", 3), ("answer", "b")))], (("run", 1),))

    def check(self, found, **bodies):
        second = self.FIRST
        for name, body in bodies.items():
            second = second.replaced(name, body)
        self.assertEqual(grown(self.FIRST, second), found)

    def test_times_that_grow(self):
        self.check([("a", 5, 6), ("b", 3, 4)], b=(("run", 4), ("answer", "b")))
        self.check([("a", 5, 6)], a=(("run", 3), ("answer", "a")))
        self.check([("a", 5, 7), ("b", 3, 5)], main=(("mask", 9), ("run", 2), ("unmask",), ("run", 1)))

    def test_times_that_become_less_or_stay(self):
        self.check([])
        self.check([], a=(("run", 1), ("answer", "a")))
        self.check([], b=(("run", 2), ("answer", "b")))
        self.check([], main=(("run", 7),))
        self.check([], b=(("run", 3), ("answer", "b"), ("answer", "b")))
        # One of them grows and the other one becomes less.
        self.check([("b", 3, 4)], a=(("run", 1), ("answer", "a")), b=(("run", 4), ("answer", "b")))

    def test_none(self):
        endless = self.FIRST.replaced("b", (("run", 3),))
        self.assertEqual(grown(self.FIRST, endless), [("b", 3, None)])
        self.assertEqual(grown(endless, self.FIRST), [])
        self.assertEqual(grown(endless, endless), [])
        self.assertEqual(grown(endless, endless.replaced("a", (("run", 3), ("answer", "a")))), [("a", 5, 6)])
        masked = self.FIRST.replaced("main", (("mask", 9), ("run", 1)))
        self.assertEqual(grown(self.FIRST, masked), [("a", 5, None), ("b", 3, None)])

    def test_the_list_is_new(self):
        second = self.FIRST.replaced("a", (("run", 3), ("answer", "a")))
        grown(first=self.FIRST, second=second, limit=5000).clear()
        self.assertEqual(grown(self.FIRST, second), [("a", 5, 6)])

    def test_limits(self):
        for limit in (0, -1, 100001, True, None, "5000", [], object()):
            with self.assertRaises(InvalidNumber) as caught:
                grown(self.FIRST, self.FIRST, limit)
            self.assertIs(caught.exception.value, limit)
            with self.assertRaises(InvalidProgram) as caught:
                grown(self.FIRST, PROGRAM, limit)
            self.assertIs(caught.exception.value, PROGRAM)

    def test_the_number_of_pairs(self):
        # The second one has more pairs, or less.
        second = self.FIRST.replaced("a", (("run", 5), ("answer", "a")))
        sizes = [[len(all_pairs(Machine(program), name)) for name in "ab"] for program in (self.FIRST, second)]
        self.assertLess(max(sizes[0]), max(sizes[1]))
        for one, other in ((self.FIRST, second), (second, self.FIRST)):
            self.assertEqual(grown(one, other, max(sizes[1])), grown(one, other))
            for limit in (max(sizes[1]) - 1, max(sizes[0]), 1):
                with self.assertRaises(TooMany) as caught:
                    grown(one, other, limit)
                self.assertEqual(caught.exception.limit, limit)


def steps_as_told(program, text):
    """What has to be the same of the steps from a state, None if it is none of the program."""
    try:
        state = parse_state(program, text)
    except ParseError:
        return None
    return [(step.choice, step.events, step.state.text) for step in Machine(program).steps(state)]


def kept_by_hand(first, second, name):
    """All pairs with a wait, and taken out one after another what can not be among them."""
    table = longest(Machine(first), name, 100000).table or {}
    found = {pair: number for pair, number in table.items() if pair[1] is not None}
    while True:
        out = [pair for pair in found if not stays(first, second, name, pair, found)]
        if not out:
            return found
        for pair in out:
            del found[pair]


def stays(first, second, name, pair, found):
    text, ahead = pair
    steps = steps_as_told(first, text)
    if steps != steps_as_told(second, text):
        return False
    for choice, events, behind in steps:
        end, left = wait_behind(name, ahead, events)
        if end is None and (behind, left) not in found:
            return False
    return True


class KeptTests(unittest.TestCase):
    def check(self, first, second, name):
        found = kept(first, second, name, 20000)
        self.assertEqual(found, kept_by_hand(first, second, name))
        table = longest(Machine(first), name, 20000).table or {}
        self.assertLessEqual(set(found.items()), set(table.items()))
        self.assertFalse([number for text, ahead in found if ahead is None])
        # The numbers are right for the second program, too.
        later = longest(Machine(second), name, 20000).table
        for pair in found if later else ():
            if pair in later:
                self.assertEqual(found[pair], later[pair])
        return found

    def waiting(self, program, name):
        return {pair: number for pair, number in longest(Machine(program), name).table.items() if pair[1] is not None}

    def test_no_change(self):
        first = program_of(source("a", 1, 6, "run 2; answer a"), source("b", 2, 9, "run 3; answer b"))
        for name in "ab":
            self.assertEqual(self.check(first, first, name), self.waiting(first, name))

    def test_a_part_that_no_pair_reaches(self):
        # While b is waited for, a does not go on, and its ticks that are left there are the same.
        first = program_of(source("a", 1, 6, "run 2; answer a; run 1"), source("b", 2, 9, "run 3; answer b"))
        second = first.replaced("a", (("run", 2), ("answer", "a"), ("run", 2)))
        self.assertEqual(self.check(first, second, "b"), self.waiting(first, "b"))
        # A wait for a ends in a step to the last run, which has other ticks left there.
        self.assertEqual(self.check(first, second, "a"), {})
        # A way that is never taken, since the counter remains 0.
        parts = ["counter c 1", source("a", 1, 6, "run 2; answer a"), source("b", 2, 9, "when c; run 1; or; run 3; end; answer b")]
        first = program_of(*parts)
        second = first.replaced("b", (("when", "c", (("run", 2),), (("run", 3),)), ("answer", "b")))
        for name in "ab":
            self.assertEqual(self.check(first, second, name), self.waiting(first, name))

    def test_a_change_in_every_part(self):
        first = program_of(source("a", 1, 6, "run 2; answer a"), background("mask 9; run 2; unmask; run 1"))
        second = program_of(source("a", 1, 6, "run 3; answer a"), background("mask 9; run 3; unmask; run 2"))
        found = self.check(first, second, "a")
        # Only what is left of a handler that runs is the same, where the background is as well.
        self.assertTrue(all(text.split(" ")[0].split("/")[-1].startswith("a:") for text, ahead in found))
        second = program_of(source("a", 1, 6, "run 2; raise a; answer a"), background("mask 9; run 1; raise a; unmask; run 1"))
        self.assertEqual(self.check(first, second, "a"), {})

    def test_events_alone(self):
        # Only the events of the last step differ, the texts are the same.
        first = program_of(source("a", 1, 6, "run 2; answer a"))
        second = program_of(source("a", 1, 6, "run 2; answer a; answer a"))
        self.assertEqual(self.check(first, second, "a"), {})

    def test_heights_alone(self):
        # The steps have other heights, but the same choices, events and texts.
        first = program_of(source("a", 1, 9, "mask 4; run 1; answer a"), source("b", 9, 9, "run 1; answer b"))
        second = first.replaced("a", (("mask", 5), ("run", 1), ("answer", "a")))
        heights = [sorted({step.height for state in Machine(one).after(0) for step in Machine(one).steps(state)}) for one in (first, second)]
        self.assertEqual(heights, [[0, 4, 9], [0, 5, 9]])
        for name in "ab":
            self.assertEqual(self.check(first, second, name), self.waiting(first, name))

    def test_a_step_that_leads_out(self):
        # The state behind the last tick differs: it is not the same step, and so are all that lead to it.
        first = program_of(source("a", 1, 9, "run 3; run 1; answer a"))
        second = program_of(source("a", 1, 9, "run 3; run 2; answer a"))
        found = self.check(first, second, "a")
        self.assertEqual({text.split(" ")[0] for text, ahead in found}, {"main:0:1:0:-/a:1:1:0:-"})

    def test_a_place_that_is_not_there(self):
        first = program_of(source("a", 1, 9, "run 3; run 1; answer a"))
        second = program_of(source("a", 1, 9, "run 3; answer a"))
        self.assertEqual(self.check(first, second, "a"), {})
        self.check(second, first, "a")

    def test_no_table(self):
        first = program_of(source("a", 1, 6, "run 2"), source("b", 2, 9, "run 3; answer b"))
        self.assertEqual(self.check(first, first, "a"), {})
        self.assertTrue(self.check(first, first, "b"))

    def test_no_table_of_the_second_program(self):
        # The handler of b ends as before. Only a is never answered.
        first = program_of(source("a", 1, 6, "run 2; answer a"), source("b", 2, 9, "run 3; answer b"))
        second = first.replaced("a", (("run", 2),))
        self.assertIsNone(longest(Machine(second), "a").table)
        self.assertEqual(self.check(first, second, "a"), {})
        self.assertTrue(self.check(first, second, "b"))

    def test_the_dict_is_new(self):
        first = program_of(source("a", 1, 6, "run 2; answer a"))
        found = kept(first=first, second=first, name="a", limit=5000)
        copied = dict(found)
        found.clear()
        self.assertEqual(kept(first, first, "a"), copied)

    def test_errors_in_their_order(self):
        first = program_of(source("a", 1, 6, "run 2; answer a"), source("b", 2, 9, "run 3; answer b"), task("job", "run 1"))
        other = program_of(source("a", 1, 6, "run 2; answer a"))
        for name in ("a", "x", None):
            for limit in (5000, 0, None, 1):
                with self.assertRaises(InvalidProgram) as caught:
                    kept(first, other, name, limit)
                self.assertIs(caught.exception.value, other)
        for name in (None, 0, "", "x", "A", "main", "job", (), ["a"], {}, object(), (("request", "a"), ("answer", "a"))):
            for limit in (5000, 0, None, 1):
                with self.assertRaises(InvalidName) as caught:
                    kept(first, first, name, limit)
                self.assertIs(caught.exception.value, name)
        for limit in (0, -1, 100001, True, None, "5000", [], object()):
            with self.assertRaises(InvalidNumber) as caught:
                kept(first, first, "a", limit)
            self.assertIs(caught.exception.value, limit)
        many = len(all_pairs(Machine(first), "a"))
        self.assertEqual(kept(first, first, "a", many), kept(first, first, "a"))
        with self.assertRaises(TooMany) as caught:
            kept(first, first, "a", many - 1)
        self.assertEqual(caught.exception.limit, many - 1)

    def test_states_of_the_second_program_are_not_counted(self):
        first = program_of(source("a", 1, 6, "run 2; answer a"))
        second = first.replaced("main", (("run", 20),))
        many = len(all_pairs(Machine(first), "a"))
        self.assertGreater(len(all_pairs(Machine(second), "a")), many)
        self.assertEqual(kept(first, second, "a", many), kept_by_hand(first, second, "a"))

    def test_any_small_programs(self):
        rng = random.Random(5)
        sizes = {"none": 0, "some": 0, "all": 0}
        for _ in range(150):
            first = any_machine(rng, 120, True).program
            name = rng.choice(("a", "b", "job", "main"))
            body = {"a": any_body(rng, "a"), "b": any_body(rng, "b"), "job": "run 2; answer a", "main": "run 1; mask 1; run 1"}[name]
            second = first.replaced(name, program_of("counter c 1", source("a", 1, 9, body), source("b", 1, 9, "run 1"),
                                                     task("job", "run 1")).body_of("a"))
            for question in "ab":
                found = self.check(first, second, question)
                table = longest(Machine(first), question, 20000).table or {}
                waiting = [pair for pair in table if pair[1] is not None]
                sizes["none" if not found else "all" if len(found) == len(waiting) else "some"] += 1
        self.assertGreater(min(sizes.values()), 20)


if __name__ == "__main__":
    unittest.main()

"""Tests of plain programs and of the recurrence."""

import random
import unittest

from interruptruns.errors import InvalidBody, InvalidName, InvalidProgram, TooMany
from interruptruns.longest import longest
from interruptruns.machine import Machine
from interruptruns.programs import Program, Source
from interruptruns.recurrence import blocked, is_plain, recurrence
from small import background, program_of, source, task

OWN = source("a", 1, 9, "run 1; answer a")
THINGS = (None, 0, True, "", "a", (), [], {}, object(), Program, (Source("a", 1, 9, (("run", 1),)),))


class PlainTests(unittest.TestCase):
    def check(self, right, *parts):
        program = program_of(*parts)
        self.assertIs(is_plain(program), right)
        if not right:
            for call in (blocked, recurrence):
                for name in ("a", "none", None):
                    with self.assertRaises(InvalidProgram) as caught:
                        call(program, name)
                    self.assertIs(caught.exception.value, program)

    def test_plain_ones(self):
        self.check(True, OWN)
        self.check(True, source("a", 9, 50, "either; run 1; loop 3; run 2; end; or; run 2; end; answer a", enter=5, leave=5),
                   source("b", 1, 1, "loop 2; either; run 1; or; run 2; end; end; answer b", enter=1),
                   background("mask 3; either; unmask; or; mask 9; loop 2; run 1; mask 1; end; end; run 3"))
        self.check(True, source("a", 1, 9, "answer a", enter=1))
        self.check(True, source("a", 1, 9, "either; or; end; answer a", enter=1))

    def test_levels(self):
        self.check(False, OWN, source("b", 1, 9, "run 1; answer b"))
        self.check(False, OWN, source("b", 2, 9, "run 1; answer b"), source("c", 2, 9, "run 1; answer c"))
        self.check(True, OWN, source("b", 2, 9, "run 1; answer b"), source("c", 3, 9, "run 1; answer c"))

    def test_keep(self):
        for keep in (2, 3):
            self.check(False, source("a", 1, 9, "run 1; answer a", keep=keep))
            self.check(False, OWN, source("b", 2, 9, "run 1; answer b", keep=keep))

    def test_tasks_and_counters(self):
        self.check(False, OWN, task("job", "run 1"))
        self.check(False, "counter c 1", OWN)

    def test_bodies_of_sources(self):
        other = source("b", 2, 9, "run 1; answer b")
        for body in ("run 1", "answer a; run 1", "run 1; answer b", "run 1; answer a; answer a", "answer a; run 1; answer a",
                     "run 1; answer b; answer a", "run 1; answer a; run 1", "run 1; either; answer a; or; answer a; end",
                     "run 1; either; answer a; or; end; answer a", "loop 2; run 1; answer a; end; answer a",
                     "run 1; answer a; either; or; end", "run 1; loop 1; run 1; end", "",):
            self.check(False, source("a", 1, 9, body, leave=1), other)
        for statement in ("mask 1", "unmask", "raise a", "arm a 3", "raise b", "answer b"):
            self.check(False, source("a", 1, 9, f"run 1; {statement}; answer a"), other)
            self.check(False, source("a", 1, 9, f"run 1; either; {statement}; or; end; answer a"), other)
            self.check(False, source("a", 1, 9, f"run 1; either; or; {statement}; end; answer a"), other)
            self.check(False, source("a", 1, 9, f"run 1; loop 2; run 1; {statement}; end; answer a"), other)
            self.check(False, other, source("a", 1, 9, f"run 1; {statement}; answer a"))
        self.check(True, source("a", 1, 9, "run 1; answer a"), other)

    def test_a_handler_without_ticks_of_its_own(self):
        self.check(False, source("a", 1, 9, "answer a", leave=1))
        self.check(False, source("a", 1, 9, "either; run 1; or; end; answer a", leave=5))
        self.check(True, source("a", 1, 9, "either; run 1; or; end; answer a", enter=1, leave=5))

    def test_backgrounds(self):
        for statement in ("answer a", "raise a", "arm a 3"):
            self.check(False, OWN, background(f"run 1; {statement}"))
            self.check(False, OWN, background(f"run 1; either; {statement}; or; end"))
            self.check(False, OWN, background(f"run 1; either; or; {statement}; end"))
            self.check(False, OWN, background(f"run 1; loop 2; run 1; loop 2; run 1; {statement}; end; end"))
        for statement in ("mask 1", "unmask", "either; or; end", "loop 1; run 1; end"):
            self.check(True, OWN, background(f"run 1; {statement}"))

    def test_other_values(self):
        for value in THINGS:
            self.assertIs(is_plain(value), False)
            for call in (blocked, recurrence):
                with self.assertRaises(InvalidProgram) as caught:
                    call(value, "none")
                self.assertIs(caught.exception.value, value)

    def test_names(self):
        program = program_of(OWN)
        for name in ("b", "main", "", "A", None, 0, True, ("a",), ["a"], {}, object()):
            for call in (blocked, recurrence):
                with self.assertRaises(InvalidName) as caught:
                    call(program, name)
                self.assertIs(caught.exception.value, name)
        self.assertEqual(blocked(program=program, name="a"), 0)
        self.assertEqual(recurrence(program=program, name="a"), 1)
        self.assertIs(is_plain(program=program), True)


class BlockedTests(unittest.TestCase):
    def check(self, expected, body):
        """The expected ones are for sources of the levels 1, 5 and 9."""
        program = program_of(*[source(name, level, 50, f"run 1; answer {name}")
                               for name, level in (("b", 5), ("a", 1), ("c", 9))], background(body))
        found = [blocked(program, name) for name in "abc"]
        self.assertEqual(found, expected)
        self.assertFalse([one for one in found if isinstance(one, bool)])

    def test_none_at_all(self):
        self.check([0, 0, 0], "run 5")
        self.check([0, 0, 0], "run 1; mask 9; unmask; run 2; mask 9")

    def test_masks_of_each_level(self):
        for level in range(1, 10):
            ticks = [4 if level >= own else 0 for own in (1, 5, 9)]
            self.check(ticks, f"run 1; mask {level}; run 4; unmask; run 2")

    def test_masks_behind_each_other(self):
        self.check([9, 5, 2], "run 1; mask 1; run 4; mask 5; run 3; mask 9; run 2; unmask; run 1")
        self.check([7, 4, 4], "run 1; mask 9; run 4; mask 1; run 2; run 1; unmask; run 6; mask 4; run 5")
        self.check([5, 4, 4], "run 1; mask 9; run 4; unmask; run 2; mask 4; run 5")

    def test_over_the_end(self):
        self.check([7, 7, 7], "mask 9; run 2; unmask; run 3; mask 9; run 5")
        self.check([5, 5, 5], "run 1; unmask; run 3; mask 9; run 5")
        self.check([8, 6, 0], "mask 5; run 2; unmask; run 3; mask 1; run 2; mask 6; run 4")
        # A mask ends with the background, and is not set again at once.
        self.check([5, 0, 0], "run 1; mask 1; run 5")

    def test_without_an_end(self):
        self.check([None, None, None], "mask 9; run 2")
        self.check([None, None, 2], "mask 5; run 2; mask 9; run 2")
        self.check([None, 2, 2], "mask 9; run 2; mask 1; run 20")
        self.check([None, None, None], "either; mask 9; or; end; run 2; unmask; either; run 1; or; end")
        self.check([None, None, None], "loop 5; mask 9; run 1; end; mask 9; run 1")

    def test_branches(self):
        self.check([7, 7, 7], "run 1; mask 9; either; run 4; or; run 7; end; unmask; run 1")
        self.check([7, 4, 4], "run 1; either; mask 9; run 4; or; mask 1; run 7; end; unmask; run 1")
        self.check([11, 0, 0], "run 1; either; mask 1; run 4; or; mask 2; run 6; end; run 5; unmask; run 1")
        self.check([9, 9, 9], "run 1; mask 9; run 3; either; unmask; or; run 1; end; run 5; unmask; run 1")
        # Over the end, behind one way and ahead of another one.
        self.check([7, 7, 7], "either; mask 9; run 3; unmask; or; end; run 1; either; mask 9; run 4; or; end")

    def test_loops(self):
        self.check([6, 6, 6], "run 1; mask 9; loop 3; run 2; end; unmask; run 1")
        self.check([7, 7, 7], "run 1; loop 3; mask 9; run 2; end; run 1; unmask; run 1")
        self.check([2, 2, 2], "run 1; loop 3; mask 9; run 2; unmask; run 1; end; run 1")
        # The mask is still there in the next pass.
        self.check([8, 8, 8], "loop 3; run 1; mask 9; run 2; end; unmask; run 1; mask 9; run 1; unmask; run 1")
        self.check([17, 17, 17], "run 1; mask 9; loop 2; loop 3; run 2; end; run 2; end; run 1; unmask; run 1")
        self.check([2530, 0, 0],
                   "run 1; mask 1; loop 5; run 1; loop 5; run 1; loop 5; run 20; end; end; end; unmask; run 1")


class RecurrenceTests(unittest.TestCase):
    def check(self, expected, *parts):
        program = program_of(*parts)
        found = {name: recurrence(program, name) for name in program.names}
        self.assertEqual(found, expected)
        for name, ticks in found.items():
            if ticks is not None:
                self.assertEqual(longest(Machine(program), name, 100000).ticks, ticks)

    def test_the_example(self):
        fast = Source("fast", 2, 7, (("run", 2), ("answer", "fast")))
        slow = Source("slow", 1, 20, (("run", 3), ("answer", "slow")))
        program = Program([fast, slow], (("run", 1), ("mask", 9), ("run", 4), ("unmask",)))
        found = [[blocked(program, name), recurrence(program, name)] for name in program.names]
        self.assertEqual(found, [[4, 6], [4, 11]])
        self.assertEqual([longest(Machine(program), name).ticks for name in program.names], [6, 11])

    def test_alone(self):
        self.check({"a": 3}, source("a", 1, 9, "run 3; answer a"))
        self.check({"a": 5}, source("a", 1, 9, "run 3; answer a", enter=2, leave=4))
        self.check({"a": 7}, source("a", 1, 9, "either; run 3; or; run 1; end; loop 2; run 2; end; answer a"))
        self.check({"a": 1}, source("a", 1, 1, "run 1; answer a"))

    def test_sources_above(self):
        # 3 and 2 for each 4 ticks that have begun: 5, 7, 7.
        self.check({"b": 2, "a": 7}, source("b", 2, 4, "run 2; answer b"), source("a", 1, 20, "run 3; answer a"))
        # 4, 2 for each 5 ticks, 1 for each 3: 7, 4 + 4 + 3 = 11, 4 + 6 + 4 = 14, 4 + 6 + 5 = 15, 15.
        self.check({"c": 1, "b": 3, "a": 15}, source("c", 3, 3, "run 1; answer c"), source("b", 2, 5, "run 2; answer b"),
                   source("a", 1, 15, "run 4; answer a"))
        # Leaving counts for those above: 3 and 3 for each 7 ticks.
        self.check({"b": 2, "a": 6}, source("b", 2, 7, "run 2; answer b", leave=1), source("a", 1, 20, "run 3; answer a"))
        # The order in the program does not matter, only the levels.
        self.check({"a": 3, "b": 5}, source("a", 7, 20, "run 3; answer a"), source("b", 3, 9, "run 2; answer b"))

    def test_masks(self):
        parts = [source("b", 2, 9, "run 2; answer b"), source("a", 1, 30, "run 3; answer a")]
        self.check({"b": 2, "a": 9}, *parts, background("run 1; mask 1; run 4; unmask"))
        self.check({"b": 6, "a": 9}, *parts, background("run 1; mask 2; run 4; unmask"))
        self.check({"b": 2, "a": None}, *parts, background("mask 1; run 4"))
        self.check({"b": None, "a": None}, *parts, background("mask 2; run 4"))

    def test_a_gap_that_is_too_small_for_the_source_itself(self):
        for gap, ticks in ((4, None), (5, 3), (6, 3)):
            self.check({"a": ticks}, source("a", 1, gap, "run 3; answer a", leave=2))
        for gap, ticks in ((6, None), (7, 7), (8, 7)):
            self.check({"b": 2, "a": ticks}, source("b", 2, 4, "run 2; answer b"), source("a", 1, gap, "run 3; answer a"))
        for gap, ticks in ((6, None), (7, 7)):
            self.check({"a": ticks}, source("a", 1, gap, "run 3; answer a"), background("run 1; mask 1; run 4; unmask"))

    def test_a_gap_that_is_too_small_for_a_source_above(self):
        low = source("a", 1, 50, "run 1; answer a")
        self.check({"b": None, "a": None}, source("b", 2, 4, "run 2; answer b", leave=3), low)
        self.check({"b": 2, "a": 6}, source("b", 2, 6, "run 2; answer b", leave=3), low)
        self.check({"b": None, "a": None}, source("b", 2, 6, "run 2; answer b"), low,
                   background("run 1; mask 2; run 5; unmask"))
        self.check({"c": 1, "b": None, "a": None}, source("c", 3, 2, "run 1; answer c"),
                   source("b", 2, 3, "run 2; answer b"), low)

    def test_no_solution(self):
        self.check({"b": 1, "a": None}, source("b", 2, 1, "run 1; answer b"), source("a", 1, 50, "run 1; answer a"))
        self.check({"c": 1, "b": 2, "a": None}, source("c", 3, 2, "run 1; answer c"), source("b", 2, 2, "run 1; answer b"),
                   source("a", 1, 50, "run 1; answer a"))

    def test_longest_times_are_the_same(self):
        rng = random.Random(11)
        numbers = 0
        for _ in range(150):
            try:
                program = self.any_plain(rng)
                self.assertTrue(is_plain(program))
            except (InvalidBody, InvalidProgram):
                continue
            for name in program.names:
                found = recurrence(program, name)
                if found is not None:
                    try:
                        self.assertEqual(longest(Machine(program), name, 1500).ticks, found)
                        numbers += 1
                    except TooMany:
                        pass
        self.assertGreater(numbers, 50)

    def any_plain(self, rng):
        names = "abc"[:rng.randint(1, 3)]
        sources = []
        for name, level in zip(names, rng.sample(range(1, 5), len(names))):
            body = (("run", 1), *self.any_body(rng, 2, False), ("answer", name))
            sources.append(Source(name, level, rng.randint(4, 25), body, enter=rng.choice((0, 0, 1)), leave=rng.choice((0, 0, 1))))
        body = list(self.any_body(rng, 2, True))
        body.insert(rng.randint(0, len(body)), ("run", 1))
        return Program(sources, tuple(body))

    def any_body(self, rng, depth, masks):
        body = []
        for _ in range(rng.randint(0, 2)):
            kind = rng.choice(["run", "run", "either", "loop"][:2 + 2 * (depth > 0)] + ["mask", "mask", "unmask"] * masks)
            body.append({
                "run": lambda: ("run", rng.randint(1, 3)),
                "mask": lambda: ("mask", rng.randint(1, 4)),
                "unmask": lambda: ("unmask",),
                "either": lambda: ("either", self.any_body(rng, depth - 1, masks), self.any_body(rng, depth - 1, masks)),
                "loop": lambda: ("loop", rng.randint(1, 2), (("run", 1), *self.any_body(rng, depth - 1, masks))),
            }[kind]())
        return tuple(body)


if __name__ == "__main__":
    unittest.main()

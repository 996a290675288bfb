"""Tests of longest times: event patterns, questions, times worked out by hand, tables, and waits."""

import random
import unittest

from interruptruns.errors import InvalidEvent, InvalidNumber, TooMany
from interruptruns.longest import Longest, is_event, is_question, longest, waits
from interruptruns.machine import Machine
from interruptruns.papers import is_ring, is_table, is_wait
from interruptruns.reach import Reach
from interruptruns.runs import Run, runs
from second_waits import all_pairs, all_waits, exact_table, greatest_wait
from small import NOTHING, background, choice, machine_of, program_of, source, task

SOURCE_KINDS = ("request", "early", "timer", "raise", "lost", "enter", "leave", "answer", "asked")
TASK_KINDS = ("post", "full", "begin", "end")
PROGRAM = program_of("counter c 2", source("a", 1, 2, "run 1"), source("b", 2, 3, "run 1"), task("job", "run 1"))
NO_EVENTS = (None, 0, True, "", "a", "request", (), ("request",), ("request", "a", "b"), ["request", "a"],
             ("request", ["a"]), (["request"], "a"), ("request", None), (None, "a"), ("request", 0), (0, 0),
             {"request": "a"}, object(), (object(), object()), ("Request", "a"), ("", "a"), ("request", ""),
             ("requests", "a"), (("request", "a"),), ("request a", "a"), ({}, {}), ("mask", "a"), ("arm", "a"))
NO_QUESTIONS = NO_EVENTS[:4] + ("c", "job", "main", "none", "A", (), ("a",), ("a", "b"), ["a"],
                                ("request", "a"), (("request", "a"),), (("request", "a"), ("answer", "c")),
                                (("request", "c"), ("answer", "a")), [("request", "a"), ("answer", "a")],
                                (["request", "a"], ("answer", "a")), (("request", "a"), ["answer", "a"]),
                                (("request", "a"), ("answer", "a"), ("answer", "a")), (("request", "a"), "a"),
                                ("a", ("answer", "a")), (None, None), {}, object(), (("over", "c"), ("over", "a")),
                                (("begin", "a"), ("end", "job")), (("begin", "job"), ("end", "b")))
FAST = source("fast", 2, 5, "run 2; answer fast")
SLOW = source("slow", 1, 20, "run 3; answer slow")


class EventTests(unittest.TestCase):
    def test_kinds_and_names(self):
        names = {"source": ("a", "b"), "task": ("job",), "main": ("main",), "counter": ("c",), "none": ("none", "")}
        for kinds, right in ((SOURCE_KINDS, ("source",)), (TASK_KINDS, ("task",)), (("over",), ("source", "task", "main")),
                             (("mask", "add", "none", ""), ())):
            for kind in kinds:
                for part, found in names.items():
                    for name in found:
                        self.assertIs(is_event(PROGRAM, (kind, name)), part in right, (kind, name))

    def test_other_values(self):
        for value in NO_EVENTS:
            self.assertIs(is_event(PROGRAM, value), False)

    def test_questions(self):
        right = ["a", "b", (("request", "a"), ("answer", "b")), (("asked", "a"), ("asked", "a")),
                 (("over", "main"), ("end", "job")), (("lost", "b"), ("full", "job"))]
        for value in right:
            self.assertIs(is_question(PROGRAM, value), True)
            self.assertIs(is_event(PROGRAM, value), False)
        for value in NO_QUESTIONS:
            self.assertIs(is_question(PROGRAM, value), False, value)
        for value in NO_EVENTS:
            self.assertIs(is_question(PROGRAM, (value, ("answer", "a"))), False)
            self.assertIs(is_question(PROGRAM, (("answer", "a"), value)), False)

    def test_by_names(self):
        self.assertIs(is_event(program=PROGRAM, value=("end", "job")), True)
        self.assertIs(is_question(program=PROGRAM, value="a"), True)


class LongestCase(unittest.TestCase):
    def check(self, ticks, question, *parts, **faults):
        """The longest time is this one, and all that is told of it is right."""
        machine = machine_of(*parts, **faults)
        found = longest(machine, question, 20000)
        self.assertIsInstance(found, Longest)
        self.assertEqual(found.ticks, ticks)
        self.assertNotIsInstance(found.ticks, bool)
        self.assertEqual(greatest_wait(machine, question), ticks)
        self.check_parts(machine, question, found)
        return found

    def check_parts(self, machine, question, found):
        run = Run(machine, found.choices)
        ended, begun = all_waits(run, question)
        if found.ticks is None:
            self.assertIsNone(found.table)
            self.assertTrue(begun)
            self.assertIs(is_ring(machine, question, found.choices, found.ring), True)
            longer = run.more(found.ring * 3)
            self.assertEqual(longer.last, run.last)
            self.assertTrue(set(begun) & set(all_waits(longer, question)[1]))
            return
        self.assertIsNone(found.ring)
        self.assertEqual(found.table, exact_table(machine, question))
        self.assertIs(is_table(machine, question, found.table, found.ticks), True)
        if found.choices:
            # The run without its last tick has one such wait less.
            times = [end - begin for begin, end in ended]
            before = [end - begin for begin, end in all_waits(Run(machine, found.choices[:-1]), question)[0]]
            self.assertGreater(times.count(found.ticks), before.count(found.ticks))
            self.assertIs(is_wait(machine, question, found.choices, found.ticks), True)
        else:
            self.assertEqual(found.ticks, 0)
            self.assertEqual(set(found.table.values()), {0})
            pairs = all_pairs(machine, question)
            self.assertFalse(any(ways for (text, ahead), ways in pairs.items()))


class TimesByHandTests(LongestCase):
    def test_alone(self):
        self.check(3, "a", source("a", 1, 9, "run 3; answer a"))
        self.check(1, "a", source("a", 1, 9, "run 1; answer a; run 7"))

    def test_entering_and_leaving(self):
        self.check(5, "a", source("a", 1, 9, "run 3; answer a", enter=2))
        self.check(5, "a", source("a", 1, 9, "run 3; answer a", enter=2, leave=4))
        self.check(9, (("request", "a"), ("leave", "a")), source("a", 1, 9, "run 3; answer a", enter=2, leave=4))
        # A request comes a tick behind the entering of the one ahead, which takes 9.
        self.check(13, "a", source("a", 1, 7, "run 3; answer a", enter=2, leave=4))
        self.check(0, (("request", "a"), ("enter", "a")), source("a", 1, 9, "run 3; answer a", enter=2, leave=4))
        self.check(5, (("enter", "a"), ("answer", "a")), source("a", 1, 7, "run 3; answer a", enter=2, leave=4))

    def test_the_example_of_entering(self):
        parts = [source("a", 1, 3, "run 3; answer a", enter=1)]
        self.check(7, "a", *parts)
        self.check(4, (("request", "a"), ("answer", "a")), *parts)

    def test_requests_of_the_own_source_that_wait(self):
        self.check(6, (("request", "a"), ("leave", "a")), source("a", 1, 9, "run 4; answer a; run 2"))
        self.check(9, "a", source("a", 1, 4, "run 4; answer a; run 2"))

    def test_higher_levels(self):
        self.check(5, "slow", FAST, SLOW)
        self.check(2, "fast", FAST, SLOW)
        self.check(7, "slow", source("fast", 2, 4, "run 2; answer fast"), SLOW)
        self.check(3, "slow", SLOW)
        # The one of the same level comes first, but does not interrupt.
        self.check(5, "slow", source("fast", 1, 20, "run 2; answer fast"), SLOW)
        self.check(4, "fast", source("fast", 1, 20, "run 2; answer fast"), SLOW)

    def test_masks(self):
        parts = [source("fast", 2, 7, "run 2; answer fast"), SLOW, background("run 1; mask 9; run 4; unmask")]
        self.check(6, "fast", *parts)
        self.check(11, "slow", *parts)
        parts[-1] = background("run 1; mask 1; run 4; unmask")
        self.check(2, "fast", *parts)
        self.check(11, "slow", *parts)
        # A mask in the handler holds the other one back.
        self.check(4, "fast", source("fast", 2, 9, "run 2; answer fast"),
                   source("slow", 1, 20, "run 1; mask 2; run 2; unmask; run 1; answer slow"))

    def test_ways(self):
        self.check(7, "a", source("a", 1, 20, "either; run 2; or; run 3; end; loop 2; run 2; end; answer a"))
        self.check(4, "a", "counter c 1", source("a", 1, 20, "when c; run 4; take c; or; run 1; end; answer a"),
                   background("run 1; add c; run 1"))

    def test_tasks_behind_each_other(self):
        parts = [source("b", 2, 20, "run 1; answer b; post work"), source("a", 1, 20, "run 1; post job"),
                 task("work", "run 3"), task("job", "run 2; answer a")]
        self.check(7, "a", *parts)
        self.check(5, (("post", "job"), ("end", "job")), *parts)
        self.check(3, (("post", "job"), ("begin", "job")), *parts)
        self.check(4, (("begin", "work"), ("end", "work")), *parts[:1], source("a", 1, 30, "run 1"), parts[2])

    def test_timers(self):
        parts = [source("a", 2, 20, "run 1; answer a; arm b 5"), source("b", 1, 50, "run 2; answer b")]
        self.check(6, (("request", "a"), ("timer", "b")), *parts)
        self.check(2, (("timer", "b"), ("answer", "b")), *parts)
        # A request comes a tick behind the timer, or the other way round.
        self.check(3, "b", *parts)
        # When six are owed, the source does not enter any more.
        parts[0] = source("a", 2, 20, "run 1; arm b 5")
        self.check(None, (("request", "a"), ("timer", "b")), *parts)

    def test_raise(self):
        parts = [source("a", 2, 9, "run 2; raise b; run 1; answer a"), source("b", 1, 50, "run 2; answer b")]
        self.check(3, "a", *parts)
        # The raise comes with a tick of the handler to come; a further request waits for it.
        self.check(3, (("raise", "b"), ("answer", "b")), *parts)
        # The handler of the background's own request takes a tick between two of them.
        parts = [source("a", 1, 9, "run 1; answer a"), background("run 2; raise a")]
        self.check(4, (("raise", "a"), ("raise", "a")), *parts)
        self.check(3, (("answer", "a"), ("raise", "a")), *parts)

    def test_posts(self):
        parts = [source("a", 1, 4, "run 1; post job; post job; answer a"), task("job", "run 1")]
        self.check(0, (("full", "job"), ("full", "job")), *parts)
        self.check(None, (("post", "job"), ("full", "job")), *parts)

    def test_overruns(self):
        for overruns in range(4):
            self.check(3 + overruns, "a", source("a", 1, 15, "run 3; answer a"), overruns=overruns)
        self.check(5, (("over", "a"), ("leave", "a")), source("a", 1, 15, "run 3; answer a; run 3"), overruns=2)

    def test_early_requests(self):
        self.check(3, "a", source("a", 1, 15, "run 3; answer a"))
        self.check(5, "a", source("a", 1, 15, "run 3; answer a"), early=1)
        self.check(5, "a", source("a", 1, 15, "run 3; answer a"), early=2)
        self.check(7, "a", source("a", 1, 15, "run 3; answer a", keep=2), early=2)
        self.check(5, "slow", source("fast", 2, 9, "run 2; answer fast"), SLOW)
        self.check(7, "slow", source("fast", 2, 9, "run 2; answer fast"), SLOW, early=1)

    def test_a_wait_that_begins_and_ends_in_one_tick(self):
        found = self.check(0, "a", source("a", 1, 9, "answer a; run 1"))
        self.assertEqual(len(found.choices), 1)
        self.assertEqual(found.choices, [choice("a")])
        found = self.check(1, (("enter", "a"), ("leave", "a")), source("a", 1, 9, "run 1; answer a"))
        self.assertTrue(all(ahead is None for text, ahead in found.table))

    def test_a_wait_of_no_ticks_that_begins_later(self):
        found = self.check(0, (("answer", "a"), ("leave", "a")), source("a", 1, 9, "run 2; answer a"))
        self.assertEqual(len(found.choices), 2)
        found = self.check(0, (("answer", "a"), ("leave", "a")), source("a", 1, 9, "run 1; answer a"))
        self.assertEqual(len(found.choices), 1)

    def test_an_answer_and_a_further_request_in_one_tick(self):
        # What is answered just ahead is not ahead of the request any more.
        self.check(1, (("raise", "a"), ("answer", "a")), source("a", 1, 9, "run 1; answer a; raise a"))
        self.check(1, "a", source("a", 1, 9, "run 1; answer a; raise a"))
        self.check(2, "b", source("a", 2, 9, "run 1; answer a; answer b; raise b"), source("b", 1, 9, "run 1; answer b", keep=2))
        # The first one is ahead of the second one.
        self.check(5, "b", source("a", 2, 9, "run 1; answer a; raise b; raise b"), source("b", 1, 50, "run 2; answer b", keep=2))
        # Two are owed when one is answered and a further one comes.
        self.check(3, "b", source("a", 2, 9, "run 3; answer b; raise b; answer a"),
                   source("b", 1, 2, "run 1; answer b", keep=3))
        # An answer with nothing owed changes nothing.
        self.check(2, "a", source("a", 1, 9, "run 1; answer a", keep=2), background("run 1; answer a; answer a; raise a"))

    def test_the_next_event_behind_it(self):
        parts = [source("a", 1, 3, "run 2; answer a")]
        self.check(None, (("request", "a"), ("request", "a")), *parts)
        self.check(None, (("answer", "a"), ("answer", "a")), *parts)
        self.check(0, (("answer", "a"), ("leave", "a")), *parts)
        self.check(None, (("leave", "a"), ("answer", "a")), *parts)
        self.check(2, (("asked", "a"), ("answer", "a")), *parts)

    def test_what_the_beginning_asks(self):
        # It is answered ahead of the others, but begins no wait itself.
        once = background("when c; or; raise a; add c; end; run 3")
        found = self.check(4, "a", "counter c 1", source("a", 1, 20, "run 2; answer a", keep=2), once)
        self.assertIn(1, [ahead for text, ahead in found.table])
        self.check(2, "a", source("a", 1, 20, "run 2; answer a", keep=2))
        self.check(0, (("raise", "a"), ("answer", "a")), "counter c 1", source("a", 1, 20, "run 2; answer a"), once)
        # Nothing else is ever asked here, since the one that is kept is never answered.
        found = self.check(0, "a", "counter c 1", source("a", 1, 20, "run 2"),
                           background("when c; or; raise a; add c; end; mask 9; run 3"))
        self.assertEqual((found.choices, found.ring), ([], None))


class NoWaitTests(LongestCase):
    def test_no_wait_at_all(self):
        for question in ((("lost", "slow"), ("answer", "slow")), (("timer", "fast"), ("answer", "fast")),
                         (("early", "slow"), ("answer", "fast")), (("over", "main"), ("over", "slow"))):
            found = self.check(0, question, FAST, SLOW)
            self.assertEqual((found.choices, found.ring), ([], None))
            machine = machine_of(FAST, SLOW)
            expected = {(state.text, None): 0 for state in Reach(machine).walk()}
            self.assertEqual(found.table, expected)


class EndlessTests(LongestCase):
    def test_waits_without_an_end(self):
        fast = source("fast", 2, 2, "run 2; answer fast")
        self.check(None, "slow", fast, SLOW)
        self.check(None, "a", source("a", 1, 2, "run 1"))
        self.check(None, "a", source("a", 1, 2, "run 1; answer a"), background("mask 9; run 1"))
        self.check(None, (("answer", "a"), ("request", "a")), source("a", 1, 2, "run 1; answer a"))
        self.check(None, (("request", "a"), ("over", "a")), source("a", 1, 2, "run 1; answer a"), overruns=1)

    def test_only_one_of_several_questions_has_no_end(self):
        parts = [source("fast", 2, 2, "run 2; answer fast"), SLOW]
        self.check(2, "fast", *parts)
        found = self.check(None, "slow", *parts)
        self.assertTrue(all(one[0] in ((), ("fast",), ("slow",), ("fast", "slow")) for one in found.ring))

    def test_an_endless_wait_for_a_request_that_is_never_answered(self):
        # One request of the beginning is ahead for ever.
        found = self.check(None, "a", "counter c 1", source("a", 1, 9, "run 1", keep=2),
                           background("when c; or; raise a; add c; end; run 1"))
        self.assertIsNone(found.table)


class ResultTests(unittest.TestCase):
    def test_the_example(self):
        machines = [machine_of(source("fast", 2, gap, "run 2; answer fast"), SLOW) for gap in (5, 4, 2)]
        found = [longest(machine, "slow") for machine in machines]
        self.assertEqual([one.ticks for one in found], [5, 7, None])
        self.assertEqual([is_table(machines[0], "slow", found[0].table, ticks) for ticks in (4, 5)], [False, True])
        self.assertIs(is_wait(machines[0], "slow", found[0].choices, 5), True)
        self.assertIs(is_ring(machines[2], "slow", found[2].choices, found[2].ring), True)
        self.assertEqual(waits(Run(machines[0], found[0].choices), "slow")[-1][1], len(found[0].choices))

    def test_lists_and_dicts_are_new(self):
        machine = machine_of(FAST, SLOW)
        found = longest(machine=machine, question="slow")
        kept = found.choices, found.table
        found.choices.clear()
        found.table.clear()
        self.assertEqual((found.choices, found.table), kept)
        self.assertEqual(longest(machine, "slow"), found)
        self.assertNotEqual(longest(machine, "fast"), found)
        self.assertFalse(found == found.table)
        endless = longest(machine_of(source("a", 1, 2, "run 1")), "a")
        ring = endless.ring
        endless.ring.clear()
        self.assertEqual(endless.ring, ring)

    def test_errors_in_their_order(self):
        machine = machine_of(FAST, SLOW)
        for question in (None, "none", "main", (), ("fast", "slow"), [], {}, object(), ["fast"], 0):
            for limit in (1, 0, None, 5000):
                with self.assertRaises(InvalidEvent) as caught:
                    longest(machine, question, limit)
                self.assertIs(caught.exception.value, question)
        for limit in (0, -1, 100001, True, None, "5000", 5000.0, [], object()):
            with self.assertRaises(InvalidNumber) as caught:
                longest(machine, "fast", limit)
            self.assertIs(caught.exception.value, limit)
        with self.assertRaises(TooMany) as caught:
            longest(machine, "fast", limit=1)
        self.assertEqual(caught.exception.limit, 1)

    def test_the_number_of_pairs_is_limited(self):
        for parts, question in (((FAST, SLOW), "slow"), ((FAST, SLOW), (("enter", "fast"), ("leave", "slow"))),
                                ((FAST,), (("lost", "fast"), ("answer", "fast")))):
            machine = machine_of(*parts)
            many = len(all_pairs(machine, question))
            self.assertGreaterEqual(many, len(Reach(machine)))
            found = longest(machine, question, many)
            self.assertEqual(found, longest(machine, question, many + 1))
            self.assertEqual(found, longest(machine, question, 100000))
            for limit in (many - 1, many // 2):
                with self.assertRaises(TooMany) as caught:
                    longest(machine, question, limit)
                self.assertEqual(caught.exception.limit, limit)

    def test_the_default_limit(self):
        machine = machine_of(source("a", 1, 50, "run 1; answer a"), source("b", 1, 50, "run 1; answer b"),
                             background("run 3"))
        with self.assertRaises(TooMany) as caught:
            longest(machine, "a")
        self.assertEqual(caught.exception.limit, 5000)

    def test_all_runs_of_a_length(self):
        machine = machine_of(source("b", 2, 4, "run 1; answer b"), source("a", 1, 5, "run 2; answer a"))
        most = 0
        for run in runs(machine, 8):
            most = max([most, *(end - begin for begin, end in waits(run, "a"))])
        self.assertEqual(longest(machine, "a").ticks, most)


class AnyMachineTests(LongestCase):
    def test_any_small_machines(self):
        rng = random.Random(7)
        told = {}
        for _ in range(150):
            bodies = [self.any_body(rng, name) for name in ("a", "b")]
            machine = machine_of(
                "counter c 1", source("a", rng.randint(1, 2), rng.randint(2, 5), bodies[0], keep=rng.randint(1, 2)),
                source("b", 2, rng.randint(3, 6), bodies[1], enter=rng.randint(0, 1), leave=rng.randint(0, 1)),
                task("job", "run 1; answer a"), background(rng.choice(("run 1", "run 1; mask 2; run 1", "run 2; add c"))),
                overruns=rng.choice((0, 0, 1)), early=rng.choice((0, 0, 1)),
            )
            pattern = [(rng.choice(SOURCE_KINDS), rng.choice("ab")), (rng.choice(TASK_KINDS), "job")]
            question = rng.choice(["a", "b", (pattern[0], pattern[1]), (pattern[0], pattern[0]),
                                   (pattern[1], pattern[0]), (pattern[0], ("answer", "a"))])
            try:
                found = longest(machine, question, 700)
            except TooMany:
                continue
            self.check_parts(machine, question, found)
            self.assertEqual(greatest_wait(machine, question), found.ticks)
            kind = found.ticks if found.ticks is None else min(found.ticks, 1)
            told[kind] = told.get(kind, 0) + 1
        self.assertEqual(sorted(told, key=str), [0, 1, None])
        self.assertGreater(min(told.values()), 10)

    def any_body(self, rng, name):
        lines = ["run 1", rng.choice(["run 1", "either; run 1; or; end", "post job", "when c; raise a; take c; or; end",
                                      "arm b 3", "mask 2; run 1"]), f"answer {name}"]
        if rng.random() < 0.3:
            lines[0], lines[2] = lines[2], lines[0]
        return "; ".join(lines)


class WaitsTests(unittest.TestCase):
    def test_several_waits_of_one_source(self):
        machine = machine_of(source("a", 1, 2, "run 3; answer a", keep=2))
        run = Run(machine, [choice("a"), NOTHING, choice("a"), NOTHING, choice("a"), *[NOTHING] * 4])
        self.assertEqual(waits(run, "a"), [(0, 3), (2, 6), (4, 9)])
        self.assertEqual(waits(Run(machine, run.choices[:8]), "a"), [(0, 3), (2, 6)])
        self.assertEqual(waits(Run(machine, run.choices[:2]), "a"), [])
        self.assertEqual(waits(Run(machine, []), "a"), [])

    def test_lost_requests_begin_no_wait(self):
        machine = machine_of(source("a", 1, 1, "run 3; answer a"))
        run = Run(machine, [choice("a")] * 7)
        # Those at 2, 3 and 5 are lost, since one is kept until the next one enters.
        self.assertEqual(waits(run, "a"), [(0, 3), (1, 6)])
        self.assertEqual(waits(run, (("lost", "a"), ("answer", "a"))), [(2, 3), (3, 6), (5, 6)])

    def test_further_first_events_ahead_of_the_last_one(self):
        machine = machine_of(source("a", 1, 1, "run 3; answer a", keep=3))
        run = Run(machine=machine, choices=[choice("a")] * 4)
        question = (("request", "a"), ("answer", "a"))
        self.assertEqual(waits(run=run, question=question), [(0, 3), (1, 3), (2, 3)])

    def test_waits_of_one_moment(self):
        machine = machine_of(source("a", 1, 9, "raise b; raise b; run 1; answer b"), source("b", 2, 9, "run 1", keep=3))
        run = Run(machine, [choice("a"), NOTHING, NOTHING])
        self.assertEqual(waits(run, (("raise", "b"), ("answer", "b"))), [(0, 1), (0, 1)])

    def test_an_event_that_is_first_and_last(self):
        machine = machine_of(source("a", 1, 2, "run 1; answer a"))
        run = Run(machine, [choice("a"), NOTHING, NOTHING, choice("a"), NOTHING, choice("a")])
        self.assertEqual(waits(run, (("request", "a"), ("asked", "a"))), [(0, 3), (3, 5)])

    def test_the_order(self):
        machine = machine_of(source("a", 1, 2, "run 3; answer a", keep=2), source("b", 2, 9, "run 1; answer b; answer b"))
        question = (("asked", "b"), ("answer", "b"))
        run = Run(machine, [choice("b"), *[NOTHING] * 8, choice("b")])
        self.assertEqual(waits(run, question), [(0, 1), (9, 10)])

    def test_answers_of_others(self):
        # The task answers what was owed longest, and answers without an owed one count for nothing.
        machine = machine_of(source("a", 1, 1, "run 1; post job", keep=3), task("job", "run 1; answer a; answer a"))
        run = Run(machine, [choice("a"), choice("a"), NOTHING, choice("a"), NOTHING, NOTHING, NOTHING])
        self.assertEqual(waits(run, "a"), all_waits(run, "a")[0])
        self.assertEqual(waits(run, "a"), [(0, 3), (1, 3), (3, 5)])

    def test_what_the_beginning_asks(self):
        machine = machine_of("counter c 1", source("a", 1, 9, "run 2; answer a", keep=2),
                             background("when c; or; raise a; add c; end; run 3"))
        run = Run(machine, [choice("a"), *[NOTHING] * 4])
        self.assertEqual(waits(run, "a"), [(0, 4)])

    def test_wrong_questions(self):
        run = Run(machine_of(FAST, SLOW), [])
        for question in (None, "none", (), ("fast", "slow"), ["fast"], {}, object(), 0, ("request", "fast")):
            with self.assertRaises(InvalidEvent) as caught:
                waits(run, question)
            self.assertIs(caught.exception.value, question)


if __name__ == "__main__":
    unittest.main()

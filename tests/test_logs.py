"""Tests of logs of runs, and of runs that fit a log."""

import random
import unittest

from drawn import KINDS, THINGS, any_kinds, any_machine
from interruptruns.errors import InvalidLog, InvalidNumber
from interruptruns.logs import Monitor, fit, log_of, worst_after
from interruptruns.runs import Run, runs
from small import NOTHING, background, choice, machine_of, source, task

MACHINE = machine_of(source("a", 1, 3, "run 2; answer a"), source("b", 2, 4, "run 1; answer b"))
WRONG_KINDS = (*THINGS, ["enter"], "enter", ("asked",), ("enter", "asked"), ("enter", "enter"), ("none",), ("Enter",), ("",), (None,),
               (("enter",),), (["enter"],), ("enter", "leave", "enter"), {"enter": 1}, {"enter"}, ("enter", 0), ("enter leave",), ("run",),
               ("mask",), ("arm",), ("add",), (True,), (object(),), (b"enter",))
WRONG_KINDS = tuple(kinds for kinds in WRONG_KINDS if not (isinstance(kinds, tuple) and kinds == ()))
ENTRY = (2, "enter", "a")
WRONG_LOGS = (None, 0, True, "", "log", (), (ENTRY,), {}, {ENTRY: 1}, object(), [None], [()], [list(ENTRY)], [ENTRY[:2]], [(*ENTRY, 1)],
              [(-1, "enter", "a")], [(True, "enter", "a")], [(False, "enter", "a")], [("2", "enter", "a")], [(None, "enter", "a")],
              [(2.0, "enter", "a")], [(2, "leave", "a")], [(2, "asked", "a")], [(2, "", "a")], [(2, None, "a")], [(2, ["enter"], "a")],
              [(2, "enter", "A")], [(2, "enter", "")], [(2, "enter", "abcdefghi")], [(2, "enter", None)], [(2, "enter", ["a"])],
              [(2, "enter", 0)], [(2, "enter", "a b")], [ENTRY, (1, "enter", "a")], [(3, "enter", "b"), (3, "enter", "a"), ENTRY],
              [ENTRY, None], [ENTRY, [ENTRY]], ["2 enter a"])
WRONG_TICKS = (-1, 1001, 10 ** 29, True, False, None, "1", 1.0, [], (), object())


def log_by_hand(run, kinds):
    """The log of a run, from the steps one by one."""
    found, state = [], run.machine.start
    for at, taken in enumerate(run.choices):
        step = run.machine.step(state, taken)
        for offset, kind, name in step.events:
            if kind in kinds:
                found.append((at + offset, kind, name))
        state = step.state
    return found


def fit_by_hand(machine, log, ticks, kinds):
    """What fit returns, by going through all runs."""
    best = 0
    for run in runs(machine, ticks):
        found = log_by_hand(run, kinds)
        if found == log:
            return list(run.choices)
        best = max(best, len([at for at in range(1, len(log) + 1) if found[:at] == log[:at]]))
    return best


class LogOfTests(unittest.TestCase):
    def setUp(self):
        self.run_of_three = Run(MACHINE, [choice("a"), choice("b"), NOTHING])

    def test_kinds(self):
        every = [(0, "request", "a"), (0, "enter", "a"), (1, "request", "b"), (1, "enter", "b"), (2, "answer", "b"), (2, "leave", "b"),
                 (3, "answer", "a"), (3, "leave", "a")]
        self.assertEqual(log_of(self.run_of_three, KINDS), every)
        self.assertEqual(log_of(self.run_of_three, KINDS[::-1]), every)
        self.assertEqual(log_of(self.run_of_three, ()), [])
        self.assertEqual(log_of(self.run_of_three, ("lost", "over")), [])
        self.assertEqual(log_of(self.run_of_three, ("enter",)), [(0, "enter", "a"), (1, "enter", "b")])
        self.assertEqual(log_of(run=self.run_of_three, kinds=("answer", "enter")), [(0, "enter", "a"), (1, "enter", "b"), (2, "answer", "b"), (3, "answer", "a")])

    def test_a_run_without_ticks(self):
        machine = machine_of(source("a", 1, 3, "run 2"), task("job", "run 1"), background("post job; raise a; run 1"))
        self.assertEqual(log_of(Run(machine, []), KINDS), [])

    def test_the_list_is_new(self):
        log_of(self.run_of_three, KINDS).clear()
        self.assertEqual(len(log_of(self.run_of_three, KINDS)), 8)

    def test_wrong_kinds(self):
        for kinds in WRONG_KINDS:
            with self.assertRaises(InvalidLog) as caught:
                log_of(self.run_of_three, kinds)
            self.assertIs(caught.exception.value, kinds)

    def test_any_runs(self):
        rng = random.Random(2)
        for _ in range(60):
            run = any_run(rng, any_machine(rng), rng.randint(0, 12))
            kinds = any_kinds(rng)
            self.assertEqual(log_of(run, kinds), log_by_hand(run, kinds))
            self.assertEqual(log_of(run, kinds), [event for event in run.events if event[1] in kinds])


def any_run(rng, machine, ticks):
    choices, state = [], machine.start
    for _ in range(ticks):
        step = rng.choice(machine.steps(state))
        choices.append(step.choice)
        state = step.state
    return Run(machine, choices)


class FitTests(unittest.TestCase):
    def check(self, found, log, ticks, kinds=("enter", "answer"), machine=MACHINE):
        self.assertEqual(fit(machine, log, ticks, kinds), found)
        self.assertEqual(type(fit(machine, log, ticks, kinds)), type(found))
        if ticks < 6:
            self.assertEqual(fit_by_hand(machine, log, ticks, kinds), found)
        if isinstance(found, list):
            self.assertEqual(log_of(Run(machine, found), kinds), log)
            self.assertEqual(len(found), ticks)

    def test_runs_that_fit(self):
        self.check([choice("a"), NOTHING], [(0, "enter", "a"), (2, "answer", "a")], 2)
        self.check([choice("a"), choice("b"), NOTHING], [(0, "enter", "a"), (1, "enter", "b"), (2, "answer", "b"), (3, "answer", "a")], 3)
        self.check([NOTHING, NOTHING], [], 2)
        # In list order the run in which both come at once is ahead of the one in which a comes later.
        self.check([choice("a b"), NOTHING], [(0, "enter", "b"), (1, "answer", "b"), (1, "enter", "a")], 2)

    def test_the_first_one_in_list_order(self):
        self.check([NOTHING, NOTHING, NOTHING], [], 3, ("lost",))
        self.check([NOTHING] * 3, [], 3, ())
        # A request of a as well is ahead of b alone, and a waits then.
        self.check([NOTHING, NOTHING, choice("a b")], [(3, "answer", "b")], 3, ("answer",))
        self.check([NOTHING, choice("a"), NOTHING], [(3, "answer", "a")], 3, ("answer",))

    def test_no_ticks(self):
        self.check([], [], 0)
        self.check([], [], 0, ())
        self.check(0, [(0, "enter", "a")], 0)
        self.check(0, [(5, "enter", "a")], 0)

    def test_an_entry_left_out(self):
        self.check(2, [(0, "enter", "a"), (1, "enter", "b"), (3, "answer", "a")], 3)
        self.check(2, [(1, "enter", "b"), (2, "answer", "b"), (3, "answer", "a")], 3)
        self.check(0, [(0, "answer", "a"), (2, "answer", "b")], 3)
        # Only further entries are always there.
        self.check(1, [(0, "enter", "a")], 2)
        self.check([choice("a")], [(0, "enter", "a")], 1)

    def test_an_entry_moved(self):
        self.check(1, [(0, "enter", "a"), (3, "answer", "a")], 2)
        self.check(1, [(0, "enter", "a"), (1, "answer", "a")], 3)
        self.check(1, [(0, "enter", "b"), (3, "answer", "b")], 3)

    def test_another_order_of_one_moment(self):
        machine = machine_of(source("a", 1, 3, "run 1; answer a; answer b; post job"), source("b", 2, 4, "run 1; answer b"), task("job", "run 1"))
        right = [(1, "answer", "a"), (1, "answer", "b"), (1, "post", "job")]
        self.check([choice("a")], right, 1, ("answer", "post"), machine)
        # Another run begins with the answer of b.
        self.check(1, [right[1], right[0], right[2]], 1, ("answer", "post"), machine)
        self.check(0, [right[2], right[0], right[1]], 1, ("answer", "post"), machine)
        self.check(1, [right[0], right[2], right[1]], 1, ("answer", "post"), machine)
        self.check([choice("a b")], [(0, "request", "a"), (0, "request", "b")], 1, ("request",), machine)
        self.check(1, [(0, "request", "b"), (0, "request", "a")], 1, ("request",), machine)
        # The end of one tick is ahead of the beginning of the next one, at the same moment.
        self.check([choice("a b"), NOTHING], [(0, "enter", "b"), (1, "leave", "b"), (1, "enter", "a")], 2, ("enter", "leave"), MACHINE)
        self.check(1, [(0, "enter", "b"), (1, "enter", "a"), (1, "leave", "b")], 2, ("enter", "leave"), MACHINE)

    def test_unknown_names(self):
        self.check(0, [(0, "enter", "x")], 2)
        self.check(1, [(0, "enter", "a"), (1, "enter", "job")], 2)
        self.check(0, [(0, "enter", "main")], 2)
        self.check(0, [(0, "begin", "a")], 2, ("begin",))

    def test_only_further_entries(self):
        # Each run has them behind each tick, since nothing enters.
        machine = machine_of(source("a", 1, 3, "run 1"), task("job", "run 1"), background("mask 9; run 1; post job"))
        kinds = ("post", "full")
        log = log_of(Run(machine, [NOTHING] * 5), kinds)
        self.assertEqual(log, [(1, "post", "job"), (2, "post", "job"), (3, "post", "job"), (4, "post", "job"), (5, "full", "job")])
        self.check([NOTHING] * 5, log, 5, kinds, machine)
        for many in range(5):
            self.check(many, log[:many], 5, kinds, machine)
        self.check(0, [], 1, kinds, machine)
        self.check([], [], 0, kinds, machine)
        self.check(2, [*log[:2], (7, "post", "job")], 5, kinds, machine)

    def test_moments_behind_the_last_tick(self):
        self.check(0, [(3, "enter", "a")], 2)
        self.check(0, [(2, "enter", "a")], 2)
        self.check([NOTHING, choice("a b")], [(2, "answer", "b")], 2, ("answer",))
        self.check(1, [(2, "answer", "b"), (3, "answer", "b")], 2, ("answer",))
        self.check(1, [(2, "answer", "b"), (10 ** 29, "answer", "b")], 2, ("answer",))
        self.check(0, [(10 ** 29, "answer", "b")] * 3, 2, ("answer",))

    def test_many_entries_of_one_moment(self):
        self.check(2, [(0, "enter", "a"), (2, "answer", "a")] + [(2, "answer", "a")] * 900, 4)
        self.check(0, [(0, "enter", "x")] * 5000, 1000)

    def test_a_thousand_ticks(self):
        for kinds in ((), ("lost",), ("enter",), ("over",)):
            self.check([NOTHING] * 1000, [], 1000, kinds)
        self.check([NOTHING] * 999 + [choice("a b")], [(1000, "answer", "b")], 1000, ("answer",))
        self.check(0, [(1000, "answer", "x")], 1000, ("answer",))
        self.check([NOTHING] * 998 + [choice("a"), NOTHING], [(998, "enter", "a")], 1000, ("enter",))
        run = any_run(random.Random(1), MACHINE, 1000)
        log = log_of(run, ("enter", "leave"))
        found = fit(MACHINE, log, 1000, ("enter", "leave"))
        self.assertEqual(log_of(Run(MACHINE, found), ("enter", "leave")), log)
        self.assertLessEqual(found, list(run.choices))
        at = len(log) // 2
        wrong = [*log[:at], (log[at][0], log[at][1], "x"), *log[at:]]
        self.assertEqual(fit(MACHINE, wrong, 1000, ("enter", "leave")), at)

    def test_faults(self):
        parts = [source("a", 1, 3, "run 2; answer a")]
        log = [(0, "request", "a"), (3, "answer", "a")]
        self.check(1, log, 3, ("request", "answer"), machine_of(*parts))
        self.check([choice("a"), choice("", True), NOTHING], log, 3, ("request", "answer"), machine_of(*parts, overruns=1))
        self.check([choice("a"), choice("a"), NOTHING], [(1, "early", "a")], 3, ("early",), machine_of(*parts, early=1))
        self.check(0, [(1, "early", "a")], 3, ("early",), machine_of(*parts, overruns=3))

    def test_the_list_is_new(self):
        fit(machine=MACHINE, log=[], ticks=2, kinds=()).clear()
        self.assertEqual(fit(MACHINE, [], 2, ()), [NOTHING] * 2)

    def test_the_log_is_not_changed(self):
        log = [(0, "enter", "a"), (2, "answer", "a")]
        fit(MACHINE, log, 2, ("enter", "answer"))
        self.assertEqual(log, [(0, "enter", "a"), (2, "answer", "a")])

    def test_any_logs(self):
        rng = random.Random(8)
        seen = {"fits": 0, "index": 0, "length": 0}
        for _ in range(250):
            machine = any_machine(rng, 200)
            ticks = rng.choice((0, 1, 2, 3, 3, 3, 4))
            if len(machine.steps(machine.start)) > 8:
                ticks = min(ticks, 2)
            kinds = any_kinds(rng)
            log = log_of(any_run(rng, machine, ticks), kinds)
            for one in (log, self.spoiled(rng, log, kinds), self.spoiled(rng, log, kinds)):
                expected = fit_by_hand(machine, one, ticks, kinds)
                self.assertEqual(fit(machine, one, ticks, kinds), expected)
                seen["fits" if isinstance(expected, list) else "index" if expected < len(one) else "length"] += 1
        self.assertGreater(min(seen.values()), 10, seen)

    def spoiled(self, rng, log, kinds):
        log = list(log)
        kind = rng.choice(("out", "name", "moved", "exchanged", "more", "cut"))
        if kind == "more" and kinds:
            log.append(((log[-1][0] if log else 0) + rng.choice((0, 1)), rng.choice(kinds), rng.choice(("a", "b", "job", "x"))))
        if not log:
            return log
        at = rng.randrange(len(log))
        if kind == "out":
            del log[at]
        elif kind == "cut":
            del log[at:]
        elif kind == "name":
            log[at] = (*log[at][:2], rng.choice(("a", "b", "job", "x")))
        elif kind == "moved":
            log[at] = (max(0, log[at][0] + rng.choice((-1, 1))), *log[at][1:])
        elif kind == "exchanged":
            log[at - 1], log[at] = log[at], log[at - 1]
        return sorted(log, key=lambda entry: entry[0])


class WrongArgumentTests(unittest.TestCase):
    CALLS = (fit, lambda machine, log, ticks, kinds: worst_after(machine, log, ticks, kinds, None, None))

    def test_kinds_come_first(self):
        for call in self.CALLS:
            for kinds in WRONG_KINDS:
                for log in ([], None):
                    with self.assertRaises(InvalidLog) as caught:
                        call(MACHINE, log, None, kinds)
                    self.assertIs(caught.exception.value, kinds)
        for kinds in WRONG_KINDS:
            with self.assertRaises(InvalidLog) as caught:
                Monitor(MACHINE, kinds)
            self.assertIs(caught.exception.value, kinds)

    def test_logs_come_next(self):
        for call in self.CALLS:
            for log in WRONG_LOGS:
                for ticks in (3, None, -1):
                    with self.assertRaises(InvalidLog) as caught:
                        call(MACHINE, log, ticks, ("enter",))
                    self.assertIs(caught.exception.value, log)
            log = [ENTRY]
            with self.assertRaises(InvalidLog) as caught:
                call(MACHINE, log, 3, ())
            self.assertIs(caught.exception.value, log)

    def test_ticks_come_next(self):
        for call in self.CALLS:
            for ticks in WRONG_TICKS:
                with self.assertRaises(InvalidNumber) as caught:
                    call(MACHINE, [ENTRY], ticks, ("enter",))
                self.assertIs(caught.exception.value, ticks)


if __name__ == "__main__":
    unittest.main()

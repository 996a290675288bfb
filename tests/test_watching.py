"""Tests of what can be there behind a log: the worst time of a wait that is under way, and monitors."""

import random
import unittest

from drawn import KINDS, THINGS, any_kinds, any_machine, any_question
from interruptruns.errors import InvalidEvent, InvalidLog, InvalidNumber, TooMany
from interruptruns.logs import Monitor, fit, log_of, worst_after
from interruptruns.longest import longest
from interruptruns.runs import Run, runs
from second_waits import all_pairs, first_row, led
from small import NOTHING, background, choice, machine_of, source, task
from test_logs import any_run, log_by_hand

SLOW = machine_of(source("a", 2, 4, "run 2; answer a"), source("b", 1, 9, "run 3; answer b"))
NO_QUESTIONS = (None, 0, True, "", "x", "main", (), ("a",), ["a"], {}, object(), ("request", "a"), (("request", "a"),),
                (("request", "x"), ("answer", "a")), [("request", "a"), ("answer", "a")])


def waits_behind(run, question):
    """The set of the numbers ahead of the waits that are under way behind a run."""
    row, state = first_row(run.machine, question), run.machine.start
    for moment, taken in enumerate(run.choices):
        step = run.machine.step(state, taken)
        row = led(question, row, moment, step.events)[0]
        state = step.state
    return {at if isinstance(question, str) else 0 for at, begin in enumerate(row) if begin is not None}


def times_by_hand(machine, question):
    """The greatest numbers of ticks of all pairs, more than there are pairs if there is none."""
    ways = all_pairs(machine, question)
    numbers = {pair: 0 for pair in ways}
    for _ in range(len(ways) + 2):
        last = numbers
        numbers = {pair: max([gain + (last[to] if to else 0) for gain, to in rows], default=0) if pair[1] is not None else 0
                   for pair, rows in ways.items()}
    return {pair: None if number > len(ways) else number for pair, number in numbers.items()}


def worst_by_hand(machine, log, ticks, kinds, question):
    times, found, fits = times_by_hand(machine, question), [0], False
    for run in runs(machine, ticks):
        if log_by_hand(run, kinds) == log:
            fits = True
            found.extend(times[run.last.text, ahead] for ahead in waits_behind(run, question))
    return max(found) if fits and None not in found else None


class WorstAfterTests(unittest.TestCase):
    def check(self, ticks, log, length, question, *, kinds=("enter", "answer"), machine=SLOW):
        found = worst_after(machine, log, length, kinds, question, 20000)
        self.assertEqual(found, ticks)
        self.assertNotIsInstance(found, bool)
        if length < 5:
            self.assertEqual(worst_by_hand(machine, log, length, kinds, question), ticks)

    def test_nothing_is_under_way(self):
        self.check(0, [], 0, "a")
        self.check(0, [(0, "enter", "a"), (2, "answer", "a")], 2, "a")
        self.check(0, [(1, "enter", "a")], 2, (("lost", "a"), ("answer", "a")))

    def test_a_number(self):
        # Behind its first tick a needs another one.
        self.check(1, [(0, "enter", "a")], 1, "a")
        self.check(longest(SLOW, "b").ticks - 1, [(0, "enter", "a")], 1, "b")
        self.check(0, [(0, "enter", "b")], 1, "a")
        # Two ticks are left of b, and one a needs two in them; the next one comes too late.
        self.check(4, [(0, "enter", "b")], 1, "b")

    def test_a_wait_that_began_ahead_of_the_last_entry(self):
        # The request of b waits while a runs; nothing is seen of it.
        machine = machine_of(source("a", 2, 9, "run 2; answer a"), source("b", 1, 20, "run 3; answer b"))
        self.check(3, [(0, "enter", "a"), (2, "answer", "a")], 2, "b", machine=machine)
        self.check(2, [(0, "enter", "b"), (1, "enter", "a"), (3, "answer", "a")], 3, "b", machine=machine)
        self.check(4, [(0, "enter", "b")], 1, "b", machine=machine)

    def test_no_greatest_number(self):
        machine = machine_of(source("a", 2, 4, "run 2"), source("b", 1, 9, "run 3; answer b"))
        self.check(None, [(0, "enter", "a")], 1, "a", machine=machine)
        self.check(0, [(0, "enter", "b")], 1, "a", machine=machine)
        # All waits of b have an end, though those of a have none.
        self.check(4, [(0, "enter", "b")], 1, "b", machine=machine)

    def test_no_run_fits(self):
        self.check(None, [(0, "answer", "a")], 2, "a")
        self.check(None, [(3, "enter", "a")], 2, "a")
        self.check(None, [(0, "enter", "x")], 2, "a")
        self.check(None, [(0, "enter", "a")], 0, "a")

    def test_several_waits_at_once(self):
        machine = machine_of(source("a", 1, 2, "run 3; answer a", keep=2))
        log = log_of(Run(machine, [choice("a"), NOTHING, choice("a")]), ("request", "answer"))
        self.assertEqual(log, [(0, "request", "a"), (2, "request", "a"), (3, "answer", "a")])
        self.check(3, log, 3, "a", kinds=("request", "answer"), machine=machine)

    def test_patterns(self):
        self.check(1, [(0, "enter", "a")], 1, (("enter", "a"), ("leave", "a")))
        self.check(0, [(0, "enter", "a")], 1, (("enter", "b"), ("leave", "b")))
        self.check(None, [(0, "enter", "a")], 1, (("enter", "a"), ("lost", "b")))

    def test_empty_kinds(self):
        self.check(longest(SLOW, "b").ticks - 1, [], 1, "b", kinds=())
        self.check(longest(SLOW, "b").ticks - 1, [], 1000, "b", kinds=())
        self.check(0, [], 0, "b", kinds=())

    def test_a_thousand_ticks(self):
        self.check(1, [(999, "enter", "a")], 1000, "a", kinds=("enter",))
        self.check(0, [(998, "enter", "a")], 1000, "a", kinds=("enter",))

    def test_errors_in_their_order(self):
        for question in NO_QUESTIONS:
            for limit in (5000, 0, None, 1):
                with self.assertRaises(InvalidEvent) as caught:
                    worst_after(SLOW, [], 3, ("enter",), question, limit)
                self.assertIs(caught.exception.value, question)
        for limit in (0, -1, 100001, True, None, "5000", [], object()):
            with self.assertRaises(InvalidNumber) as caught:
                worst_after(SLOW, [], 3, ("enter",), "a", limit)
            self.assertIs(caught.exception.value, limit)
        many = len(all_pairs(SLOW, "a"))
        for log in ([], [(0, "enter", "x")]):
            self.assertEqual(worst_after(machine=SLOW, log=log, ticks=3, kinds=("enter",), question="a", limit=many),
                             worst_after(SLOW, log, 3, ("enter",), "a"))
            with self.assertRaises(TooMany) as caught:
                worst_after(SLOW, log, 3, ("enter",), "a", many - 1)
            self.assertEqual(caught.exception.limit, many - 1)

    def test_the_default_limit(self):
        machine = machine_of(source("a", 1, 50, "run 1; answer a"), source("b", 1, 50, "run 1; answer b"), background("run 3"))
        with self.assertRaises(TooMany) as caught:
            worst_after(machine, [], 0, (), "a")
        self.assertEqual(caught.exception.limit, 5000)

    def test_any_logs(self):
        rng = random.Random(28)
        seen = {}
        for _ in range(150):
            machine, question = any_machine(rng, 100), any_question(rng)
            ticks = rng.choice((0, 1, 2, 3, 3))
            if len(machine.steps(machine.start)) > 8:
                ticks = min(ticks, 2)
            kinds = any_kinds(rng)
            log = log_of(any_run(rng, machine, ticks), kinds)
            if log and rng.random() < 0.1:
                del log[-1]
            expected = worst_by_hand(machine, log, ticks, kinds, question)
            self.assertEqual(worst_after(machine, log, ticks, kinds, question), expected)
            kind = isinstance(fit(machine, log, ticks, kinds), list), expected if expected is None else min(expected, 1)
            seen[kind] = seen.get(kind, 0) + 1
        self.assertEqual(set(seen), {(True, None), (True, 0), (True, 1), (False, None)})


class MonitorTests(unittest.TestCase):
    KINDS = ("enter", "answer")

    def setUp(self):
        self.monitor = Monitor(SLOW, self.KINDS)

    def seen(self, machine, choices, kinds):
        """The events with these kinds in each tick."""
        state, found = machine.start, []
        for taken in choices:
            step = machine.step(state, taken)
            found.append([event for event in step.events if event[1] in kinds])
            state = step.state
        return found

    def test_tick_by_tick(self):
        self.assertEqual(self.monitor.possible, 1)
        self.assertIs(self.monitor([(0, "enter", "a")]), True)
        # A request of b in the same tick is not seen.
        self.assertEqual(self.monitor.possible, 2)
        self.assertIs(self.monitor([(1, "answer", "a")]), True)
        # It may have come in this tick, too.
        self.assertEqual(self.monitor.possible, 3)
        self.assertIs(self.monitor([]), True)
        # Those where b waits have it enter now.
        self.assertEqual(self.monitor.possible, 1)

    def test_nothing_fits_from_then_on(self):
        self.monitor([(0, "enter", "a")])
        self.assertIs(self.monitor([(0, "enter", "a")]), False)
        self.assertEqual(self.monitor.possible, 0)
        for events in ([], [(1, "answer", "a")], [(0, "enter", "a")]):
            self.assertIs(self.monitor(events), False)
            self.assertEqual(self.monitor.possible, 0)

    def test_reset(self):
        for events in ([(0, "enter", "a")], [(1, "enter", "a")], [(0, "enter", "b")]):
            self.monitor(events)
            self.assertIsNone(self.monitor.reset())
            self.assertEqual(self.monitor.possible, 1)
            self.assertIs(self.monitor([(0, "enter", "a")]), True)
            self.monitor.reset()

    def test_two_monitors_of_one_machine(self):
        other = Monitor(machine=SLOW, kinds=self.KINDS)
        self.monitor([(0, "enter", "x")])
        self.assertEqual((self.monitor.possible, other.possible), (0, 1))
        self.assertIs(other([(0, "enter", "a")]), True)
        self.assertEqual((self.monitor.possible, other.possible), (0, 2))

    def test_no_kinds(self):
        monitor = Monitor(SLOW, ())
        for ticks in range(1, 12):
            self.assertIs(monitor([]), True)
            self.assertEqual(monitor.possible, len(SLOW.after(ticks)))

    def test_the_order_of_events(self):
        monitor = Monitor(SLOW, ("request", "enter"))
        events = [(0, "request", "a"), (0, "request", "b"), (0, "enter", "a")]
        self.assertIs(monitor(events), True)
        self.assertEqual(events, [(0, "request", "a"), (0, "request", "b"), (0, "enter", "a")])
        for wrong in ([events[1], events[0], events[2]], [events[0], events[2], events[1]], events[:2], events + events[2:]):
            monitor.reset()
            self.assertIs(monitor(wrong), False)

    def refuse(self, monitor, events):
        """Give a monitor a list that is wrong, and look whether it stays as it was."""
        before = monitor.possible
        with self.assertRaises(InvalidLog) as caught:
            monitor(events)
        self.assertIs(caught.exception.value, events)
        self.assertEqual(monitor.possible, before)

    def test_no_other_offsets(self):
        right = (0, "enter", "a")
        for offset in (2, 3, 50, 1000, 10 ** 29, -1, -2, True, False, 0.0, 1.0, "0", "1", None, (0,), [1]):
            wrong = (offset, "enter", "a")
            for events in ([wrong], [right, wrong], [wrong, right], [right, wrong, right], [wrong, wrong]):
                self.monitor.reset()
                self.refuse(self.monitor, events)
                # The next tick is answered as if nothing had been given.
                self.assertIs(self.monitor([right]), True)
                self.assertEqual(self.monitor.possible, 2)
                self.refuse(self.monitor, events)
                self.assertIs(self.monitor([(1, "answer", "a")]), True)
                self.assertEqual(self.monitor.possible, 3)

    def test_no_other_offsets_where_nothing_fits(self):
        self.monitor([(0, "enter", "x")])
        self.assertEqual(self.monitor.possible, 0)
        self.refuse(self.monitor, [(2, "enter", "a")])
        self.assertIs(self.monitor([(0, "enter", "a")]), False)
        self.monitor.reset()
        self.assertIs(self.monitor([(0, "enter", "a")]), True)

    def test_no_other_offsets_of_any_kind(self):
        monitor = Monitor(SLOW, KINDS)
        for kind in KINDS:
            for name in ("a", "b", "x"):
                self.refuse(monitor, [(2, kind, name)])
                self.refuse(monitor, [(0, "request", "a"), (0, "enter", "a"), (2, kind, name)])
        self.assertIs(monitor([(0, "request", "a"), (0, "enter", "a")]), True)

    def test_offsets_that_an_event_does_not_have(self):
        # These are offsets, in whatever order and with whatever kinds they stand, but no tick has them.
        for events in ([(1, "enter", "a")], [(0, "answer", "a")], [(1, "answer", "a"), (0, "enter", "a")]):
            self.monitor.reset()
            self.assertIs(self.monitor(events), False)
            self.assertEqual(self.monitor.possible, 0)

    def test_moments_of_logs_are_no_offsets(self):
        log = [(0, "enter", "a"), (2, "answer", "a"), (5, "enter", "a"), (7, "answer", "a")]
        self.assertIsInstance(fit(SLOW, log, 7, self.KINDS), list)
        self.assertEqual(worst_after(SLOW, log[:3], 6, self.KINDS, "a"), 1)

    def test_names_that_the_program_does_not_have(self):
        for name in ("x", "main", "abcdefgh"):
            self.monitor.reset()
            self.assertIs(self.monitor([(0, "enter", name)]), False)

    def test_wrong_events_change_nothing(self):
        entry = (0, "enter", "a")
        self.monitor([entry])
        for events in (*THINGS, entry, (entry,), {entry: 1}, [None], [()], [list(entry)], [entry[:2]], [(*entry, 1)], [(-1, "enter", "a")],
                       [(True, "enter", "a")], [(False, "enter", "a")], [("0", "enter", "a")], [(None, "enter", "a")], [(0.0, "enter", "a")],
                       [(0, "leave", "a")], [(0, "asked", "a")], [(0, None, "a")], [(0, ["enter"], "a")], [(0, "enter", "A")],
                       [(0, "enter", "")], [(0, "enter", "abcdefghi")], [(0, "enter", None)], [(0, "enter", ["a"])], [entry, None], "enter"):
            if events == []:
                continue
            with self.assertRaises(InvalidLog) as caught:
                self.monitor(events)
            self.assertIs(caught.exception.value, events)
            self.assertEqual(self.monitor.possible, 2)
        self.assertIs(self.monitor(events=[(1, "answer", "a")]), True)

    def test_any_runs(self):
        rng = random.Random(9)
        seen = {"fits": 0, "not": 0}
        for _ in range(80):
            machine, kinds = any_machine(rng, 200), any_kinds(rng)
            ticks = 2 if len(machine.steps(machine.start)) > 8 else 3
            told = self.seen(machine, any_run(rng, machine, ticks).choices, kinds)
            if rng.random() < 0.3 and kinds:
                told[-1] = [*told[-1], (1, rng.choice(kinds), "a")]
            monitor = Monitor(machine, kinds)
            for many in range(ticks + 1):
                states = {run.last.text for run in runs(machine, many) if self.seen(machine, run.choices, kinds) == told[:many]}
                if many:
                    if kinds:
                        self.refuse(monitor, [*told[many - 1], (rng.randint(2, 9), rng.choice(kinds), "a")])
                    self.assertIs(monitor(list(told[many - 1])), bool(states))
                    seen["fits" if states else "not"] += 1
                self.assertEqual(monitor.possible, len(states))
        self.assertGreater(min(seen.values()), 5)

    def test_the_same_as_fit(self):
        rng = random.Random(10)
        for _ in range(40):
            machine, kinds = any_machine(rng, 200), any_kinds(rng)
            told = self.seen(machine, any_run(rng, machine, 30).choices, kinds)
            monitor, log = Monitor(machine, kinds), []
            for tick, events in enumerate(told):
                self.assertIs(monitor(events), True)
                log.extend((tick + offset, kind, name) for offset, kind, name in events)
            self.assertIsInstance(fit(machine, log, 30, kinds), list)
            self.assertGreater(monitor.possible, 0)


if __name__ == "__main__":
    unittest.main()

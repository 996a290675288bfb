"""Tests of greatest numbers of frames and of waiting tasks, of lost requests and of stretches."""

import random
import unittest

from drawn import all_states, any_machine
from interruptruns.errors import InvalidName, InvalidNumber, TooMany
from interruptruns.extremes import longest_stretch, loses, most_frames, most_waiting
from interruptruns.longest import longest
from interruptruns.machine import Machine
from interruptruns.programs import Program, Source
from interruptruns.reach import Reach
from interruptruns.recurrence import blocked, recurrence
from interruptruns.runs import Run, runs
from small import NOTHING, background, choice, machine_of, source, task

A = source("a", 1, 9, "run 3; answer a")
B = source("b", 2, 9, "run 2; answer b")
C = source("c", 3, 9, "run 1; answer c")
NAMES = (None, 0, True, "", "none", "A", "a b", "main", "job", "c", (), [], {}, ["a"], ("a",), object())
WRONG_LIMITS = (0, -1, 100001, 10 ** 29, True, False, None, "5000", 5000.0, [], (), object())


def first_run(machine, length, holds):
    """The choices of the first one of the runs of this length or a smaller one for which something holds."""
    for ticks in range(length + 1):
        for run in runs(machine, ticks):
            if holds(run):
                return list(run.choices)
    return None


def last_step(run):
    return run.machine.step(run.states[-2], run.choices[-1])


def has_depth(number):
    return lambda run: len(run) > 0 and last_step(run).depth == number


def has_waiting(number):
    return lambda run: len(run.last.queue) == number


def has_lost(name):
    return lambda run: len(run) > 0 and ("lost", name) in [event[1:] for event in last_step(run).events]


def first_of_layers(machine, holds, most=40):
    """The first one of the shortest lists of choices for whose last step something holds.

    For each length, this keeps the least list of just this length to each state.
    """
    steps, layer = all_states(machine), {machine.start.text: []}
    for _ in range(most):
        lists = [([*choices, step.choice], step) for text, choices in layer.items() for step in steps[text]]
        right = [choices for choices, step in lists if holds(step)]
        if right:
            return min(right)
        layer = {}
        for choices, step in sorted(lists, key=lambda one: one[0], reverse=True):
            layer[step.state.text] = choices
    return None


class ExtremesCase(unittest.TestCase):
    def check_frames(self, number, choices, *parts, **faults):
        machine = machine_of(*parts, **faults)
        self.assertEqual(most_frames(machine, 20000), (number, choices))
        self.check_first(machine, choices, has_depth(number))

    def check_waiting(self, number, choices, *parts, **faults):
        machine = machine_of(*parts, **faults)
        self.assertEqual(most_waiting(machine, 20000), (number, choices))
        self.check_first(machine, choices, has_waiting(number))

    def check_loses(self, name, choices, *parts, **faults):
        machine = machine_of(*parts, **faults)
        self.assertEqual(loses(machine, name, 20000), choices)
        if choices is not None:
            self.check_first(machine, choices, has_lost(name))

    def check_first(self, machine, choices, holds):
        self.assertTrue(holds(Run(machine, choices)))
        if len(choices) <= 4:
            self.assertEqual(first_run(machine, len(choices), holds), choices)


class FramesTests(ExtremesCase):
    def test_one_or_two(self):
        self.check_frames(2, [choice("a")], A)
        self.check_frames(1, [NOTHING], A, background("mask 9; run 1"))

    def test_sources_above_each_other(self):
        self.check_frames(3, [choice("a"), choice("b")], A, B)
        # When b comes, c can come a tick later, while b still has one.
        self.check_frames(4, [choice("a"), choice("b"), choice("c")], A, B, C)
        # A handler of one tick has ended before another one can come.
        self.check_frames(2, [choice("a")], source("a", 1, 9, "run 1"), source("b", 2, 9, "run 1"))
        self.check_frames(3, [choice("a b"), choice("c")], source("a", 1, 9, "run 1"), B, C)

    def test_the_same_level(self):
        self.check_frames(2, [choice("a")], source("a", 5, 9, "run 4"), source("b", 5, 9, "run 4"))

    def test_masks(self):
        masked = source("a", 1, 9, "mask 2; run 5")
        self.check_frames(2, [choice("a")], masked, B)
        self.check_frames(3, [choice("a"), choice("b c")], masked, B, C)
        self.check_frames(3, [choice("a"), NOTHING, choice("b")], source("a", 1, 9, "mask 2; run 2; unmask; run 2"), B)
        self.check_frames(2, [NOTHING, NOTHING, choice("a")], A, background("mask 1; run 2; unmask; run 1"))

    def test_entering_and_leaving(self):
        self.check_frames(3, [choice("a"), choice("b")], source("a", 1, 9, "run 1; answer a", enter=1), B)
        self.check_frames(3, [choice("a"), choice("b")], source("a", 1, 9, "run 1; answer a", leave=1), B)
        self.check_frames(3, [choice("a"), choice("b")], source("a", 1, 9, "", enter=2), source("b", 2, 9, "", leave=1))
        self.check_frames(2, [choice("a")], source("a", 1, 9, "", enter=1), source("b", 2, 9, "", leave=1))

    def test_raise_and_timers(self):
        raised = source("b", 2, 50, "run 1")
        self.check_frames(3, [choice("a"), NOTHING], source("a", 1, 9, "run 1; raise b; run 2"), raised)
        self.check_frames(3, [choice("a"), NOTHING], source("a", 1, 9, "arm b 1; run 5"), raised)
        self.check_frames(3, [choice("a"), NOTHING, NOTHING], source("a", 1, 9, "mask 2; arm b 1; run 2; unmask; run 1"), raised)

    def test_tasks(self):
        posts = source("a", 1, 2, "run 1; post job")
        self.check_frames(3, [choice("a"), NOTHING, choice("a")], posts, task("job", "run 2"))
        self.check_frames(2, [choice("a")], posts, task("job", "run 1"))
        self.check_frames(2, [choice("a")], posts, task("job", "mask 9; run 2"))
        # The first task is there as long as the others wait.
        self.check_frames(4, [NOTHING, choice("a"), choice("b")], A, B, task("job", "run 2"),
                          background("post job; post job; run 1"))

    def test_overruns(self):
        parts = [source("a", 1, 9, "run 1; answer a"), source("b", 2, 9, "run 1; answer b")]
        self.check_frames(3, [choice("a", True), choice("b")], *parts, overruns=1)
        self.check_frames(2, [choice("a")], *parts, early=3)
        parts.append(source("c", 3, 9, "run 1; answer c"))
        self.check_frames(3, [choice("a", True), choice("b")], *parts, overruns=1)
        self.check_frames(4, [choice("a", True), choice("b", True), choice("c")], *parts, overruns=2)

    def test_early_requests(self):
        # The background takes the count away before a can come again, unless it is early.
        parts = ["counter k 1", source("a", 1, 3, "when k; run 2; or; add k; run 1; end"), source("b", 2, 3, "run 1"),
                 background("run 1; take k")]
        self.check_frames(2, [choice("a")], *parts)
        self.check_frames(2, [choice("a")], *parts, overruns=0)
        self.check_frames(3, [choice("a"), choice("a"), choice("b")], *parts, early=1)

    def test_the_example(self):
        fast = Source("fast", 2, 7, (("run", 2), ("answer", "fast")))
        slow = Source("slow", 1, 20, (("run", 3), ("answer", "slow")))
        program = Program([fast, slow], (("run", 1), ("mask", 9), ("run", 4), ("unmask",)))
        machine = Machine(program)
        found = [[blocked(program, name), recurrence(program, name), longest(machine, name).ticks] for name in program.names]
        self.assertEqual(found, [[4, 6, 6], [4, 11, 11]])
        self.assertEqual(most_frames(machine)[0], 3)
        self.assertEqual(most_waiting(machine), (0, []))
        self.assertIsNone(loses(machine, "fast"))
        self.assertEqual(longest_stretch(machine, 9), 4)


class WaitingTests(ExtremesCase):
    def test_no_tasks_at_all(self):
        self.check_waiting(0, [], A, B)
        self.check_waiting(0, [], source("a", 1, 9, "run 1"), task("job", "run 1"))

    def test_posts(self):
        job = task("job", "run 1")
        self.check_waiting(1, [choice("a")], source("a", 1, 9, "run 1; post job"), job)
        self.check_waiting(2, [choice("a")], source("a", 1, 9, "run 1; post job; post job"), job)
        self.check_waiting(4, [choice("a")], source("a", 1, 9, "run 1; post job; post job; post job; post job; post job"), job)
        # A task that begins at once in the tick behind the post waits between the two.
        self.check_waiting(1, [], source("a", 1, 9, "run 1"), job, background("post job; run 1"))
        self.check_waiting(2, [choice("a")], source("a", 1, 9, "run 1; post other"), job, task("other", "run 1"),
                           background("post job; run 1"))

    def test_masks(self):
        # The background never lets a task begin, since its mask is never 0 between its ticks.
        self.check_waiting(4, [NOTHING] * 3, source("a", 1, 9, "run 1"), task("job", "run 1"), background("post job; mask 9; run 1"))
        self.check_waiting(1, [NOTHING], source("a", 1, 9, "run 1"), task("job", "run 1"), background("mask 9; run 1; unmask; post job; run 1"))

    def test_raise(self):
        # Behind the raised one b comes by itself, ahead of all tasks.
        self.check_waiting(3, [choice("a"), NOTHING, choice("b")], source("a", 1, 9, "run 1; post job; raise b; answer a"),
                           source("b", 2, 50, "run 1; post job; answer b"), task("job", "run 1"))

    def test_requests_while_a_task_runs(self):
        # One task runs through all requests, one each two ticks.
        self.check_waiting(4, [choice("a"), NOTHING] * 4 + [choice("a")], source("a", 1, 2, "run 1; post job"), task("job", "run 5"))
        self.check_waiting(1, [choice("a")], source("a", 1, 3, "run 1; post job"), task("job", "run 2"))

    def test_overruns(self):
        parts = [source("a", 1, 3, "run 1; post job"), task("job", "run 2")]
        for overruns in (0, 1):
            self.check_waiting(1, [choice("a")], *parts, overruns=overruns)
        # The first handler ends a tick ahead of the next one, so that no task begins between them.
        choices = [choice("a", True), choice("", True), NOTHING, choice("a")]
        self.check_waiting(2, choices, *parts, overruns=2)

    def test_early_requests(self):
        parts = [source("a", 1, 50, "run 1; post job"), task("job", "run 9")]
        for early in (1, 2, 3):
            self.check_waiting(early + 1, [choice("a")] * (early + 1), *parts, early=early)


class LosesTests(ExtremesCase):
    def test_enough_are_kept(self):
        self.check_loses("a", [choice("a")] * 3, source("a", 1, 1, "run 3; answer a"))
        self.check_loses("a", [choice("a")] * 4, source("a", 1, 1, "run 9; answer a", keep=2))
        self.check_loses("a", [choice("a")] * 2, source("a", 1, 1, "run 1; answer a"), background("mask 9; run 5"))
        self.check_loses("b", None, source("a", 1, 1, "run 3; answer a"), source("b", 2, 9, "run 1; answer b"))

    def test_six_are_owed(self):
        # None is answered, so six are owed behind six ticks.
        self.check_loses("a", [choice("a")] * 7, source("a", 1, 1, "run 1"))
        self.check_loses("a", [choice("a"), NOTHING] * 6 + [choice("a")], source("a", 1, 2, "run 1"))
        self.check_loses("a", None, source("a", 1, 2, "run 1; answer a"))
        self.check_loses("a", None, source("a", 1, 1, "run 1; answer a; answer a"))

    def test_only_with_an_overrun(self):
        # Two more ticks of one handler let two requests come in it, the first of them kept until then.
        parts = [source("a", 1, 2, "run 2; answer a")]
        for overruns in (0, 1):
            self.check_loses("a", None, *parts, overruns=overruns)
        choices = [choice("a"), choice("", True), choice("a", True), NOTHING, choice("a")]
        self.check_loses("a", choices, *parts, overruns=2)
        self.assertEqual(first_run(machine_of(*parts, overruns=2), 5, has_lost("a")), choices)

    def test_only_with_an_early_request(self):
        parts = [source("a", 1, 4, "run 4; answer a")]
        for early in (0, 1):
            self.check_loses("a", None, *parts, early=early)
        self.check_loses("a", [choice("a")] * 3, *parts, early=2)

    def test_timers(self):
        # It asks itself in the ticks 1 and 3, and its own request is 50 ticks away.
        parts = [source("a", 1, 50, "arm a 1; run 2; arm a 1; run 3; answer a")]
        self.check_loses("a", [choice("a"), NOTHING, NOTHING, NOTHING], *parts)
        run = Run(machine_of(*parts), [choice("a"), NOTHING, NOTHING, NOTHING])
        self.assertEqual(run.events[-2:], [(3, "timer", "a"), (3, "lost", "a")])
        # The timer is ahead of the request of the same tick.
        self.check_loses("b", [NOTHING, choice("b")], source("b", 1, 50, "run 1; answer b"),
                         background("arm b 1; mask 9; run 2; unmask; run 2"))

    def test_raise(self):
        self.check_loses("b", [choice("a")], source("a", 1, 9, "raise b; raise b; run 1"), source("b", 2, 9, "run 1; answer b"))
        self.check_loses("b", [choice("a")], source("a", 2, 9, "run 1; raise b; raise b"), source("b", 1, 9, "run 1; answer b"))
        self.check_loses("b", [choice("a b")], source("a", 2, 9, "run 1; raise b"), source("b", 1, 9, "run 1; answer b"))

    def test_names(self):
        machine = machine_of("counter c 1", A, B, task("job", "run 1"))
        for name in NAMES:
            for limit in (5000, 1, 0, None):
                with self.assertRaises(InvalidName) as caught:
                    loses(machine, name, limit)
                self.assertIs(caught.exception.value, name)


class StretchTests(ExtremesCase):
    def check_stretches(self, numbers, *parts, **faults):
        """The longest stretches at levels from 0 on; the last one also at all levels above."""
        machine = machine_of(*parts, **faults)
        found = [longest_stretch(machine, level, 20000) for level in range(10)]
        self.assertEqual(found, numbers + numbers[-1:] * (10 - len(numbers)))
        self.assertFalse([number for number in found if isinstance(number, bool)])

    def test_one_handler(self):
        self.check_stretches([None, 3, 0], source("a", 1, 9, "run 3; answer a"))
        self.check_stretches([None, 3, 3, 3, 3, 3, 3, 3, 3, 3], source("a", 9, 9, "run 3; answer a"))

    def test_entering_and_leaving(self):
        self.check_stretches([None, 6, 6, 0], source("a", 2, 9, "run 1; answer a", enter=2, leave=3))
        # The mask of the body is there neither while it is entered nor while it is left.
        self.check_stretches([None, 6, 6, 1, 1, 1, 1, 1, 0], source("a", 2, 9, "mask 7; run 1; answer a", enter=2, leave=3))

    def test_several_handlers_one_behind_the_other(self):
        self.check_stretches([None, 5, 2, 0], source("a", 1, 9, "run 3"), source("b", 2, 9, "run 2"))
        self.check_stretches([None, 7, 4, 4, 1, 0], source("a", 1, 8, "run 3; answer a"),
                             source("b", 3, 8, "run 3; answer b"), source("c", 4, 8, "run 1; answer c"))

    def test_no_greatest_number(self):
        self.check_stretches([None, None, 0], source("a", 1, 3, "run 3; answer a"))
        # Without an answer six requests are kept, and no further ones.
        self.check_stretches([None, 18, 0], source("a", 1, 3, "run 3"))
        self.check_stretches([None, None, 0], source("a", 1, 2, "run 1; answer a"), source("b", 1, 2, "run 1; answer b"))
        self.check_stretches([None, None, 2, 0], source("a", 1, 3, "run 1; answer a"), source("b", 2, 3, "run 2; answer b"))
        self.check_stretches([None], source("a", 1, 9, "run 1"), background("mask 9; run 1"))
        self.check_stretches([None, None, None, 0], source("a", 1, 9, "run 1"), background("mask 2; run 1"))

    def test_masks_of_the_background(self):
        # The request waits for the end of the mask.
        self.check_stretches([None, 5, 2, 2, 0], source("a", 1, 9, "run 3"), background("run 1; mask 3; run 2; unmask; run 1"))
        self.check_stretches([None, 3, 3, 3, 3, 0], source("a", 4, 9, "run 1"), background("run 1; mask 4; run 2; unmask; run 1"))

    def test_masks_of_handlers(self):
        self.check_stretches([None, 4, 4, 4, 2, 0], source("a", 1, 9, "mask 4; run 2; mask 3; run 2"))
        # From the masked ticks it goes on with b, which has waited for their end.
        self.check_stretches([None, 7, 5, 2, 2, 0], source("a", 1, 9, "mask 4; run 2; unmask; run 2"), source("b", 2, 9, "run 3"))

    def test_masks_of_tasks(self):
        self.check_stretches([None, 6, 5, 2, 2, 2, 0], source("a", 1, 9, "run 1"), task("job", "mask 5; run 2; mask 2; run 3"),
                             background("run 1; post job"))

    def test_faults(self):
        self.check_stretches([None, 1, 0], source("a", 1, 9, "run 1"))
        self.check_stretches([None, 3, 0], source("a", 1, 9, "run 1"), overruns=2)
        self.check_stretches([None, 3, 0], source("a", 1, 9, "run 1"), early=2)

    def test_wrong_levels(self):
        machine = machine_of(A, B)
        for level in (-1, 10, 10 ** 29, True, False, None, "1", "a", 1.0, [], (), {}, object()):
            for limit in (5000, 1, 0, None):
                with self.assertRaises(InvalidNumber) as caught:
                    longest_stretch(machine, level, limit)
                self.assertIs(caught.exception.value, level)


class LimitTests(unittest.TestCase):
    def setUp(self):
        self.machine = machine_of(A, B, task("job", "run 1"))
        self.calls = (
            lambda *more, **named: most_frames(self.machine, *more, **named),
            lambda *more, **named: most_waiting(self.machine, *more, **named),
            lambda *more, **named: loses(self.machine, "a", *more, **named),
            lambda *more, **named: longest_stretch(self.machine, 1, *more, **named),
        )

    def test_wrong_limits(self):
        for call in self.calls:
            for limit in WRONG_LIMITS:
                with self.assertRaises(InvalidNumber) as caught:
                    call(limit)
                self.assertIs(caught.exception.value, limit)

    def test_the_number_of_states(self):
        many = len(Reach(self.machine))
        for call in self.calls:
            self.assertEqual(call(many), call())
            self.assertEqual(call(limit=100000), call())
            for limit in (many - 1, 1):
                with self.assertRaises(TooMany) as caught:
                    call(limit)
                self.assertEqual(caught.exception.limit, limit)

    def test_all_states_are_counted_even_if_it_is_found_soon(self):
        machine = machine_of(source("a", 1, 1, "run 3; answer a"), source("b", 2, 40, "run 1; answer b"))
        many = len(Reach(machine))
        # The one above enters first.
        self.assertEqual(loses(machine, "a", many), [choice("a b"), choice("a")])
        with self.assertRaises(TooMany):
            loses(machine, "a", many - 1)

    def test_the_default_limit(self):
        machine = machine_of(source("a", 1, 50, "run 1; answer a"), source("b", 1, 50, "run 1; answer b"), background("run 3"))
        for call in (most_frames, most_waiting, lambda one: loses(one, "a"), lambda one: longest_stretch(one, 1)):
            with self.assertRaises(TooMany) as caught:
                call(machine)
            self.assertEqual(caught.exception.limit, 5000)

    def test_by_names(self):
        machine = self.machine
        self.assertEqual(most_frames(machine=machine, limit=5000), most_frames(machine))
        self.assertEqual(most_waiting(machine=machine, limit=5000), most_waiting(machine))
        self.assertEqual(loses(machine=machine, name="a", limit=5000), None)
        self.assertEqual(longest_stretch(machine=machine, level=1, limit=5000), longest_stretch(machine, 1))

    def test_lists_are_new(self):
        for call in (most_frames, most_waiting, lambda one: (0, loses(one, "a"))):
            machine = machine_of(source("a", 1, 1, "run 3; post job"), task("job", "run 1"))
            found = call(machine)
            kept = list(found[1])
            found[1].append("more")
            self.assertEqual(call(machine)[1], kept)


class AnyMachineTests(unittest.TestCase):
    def test_any_small_machines(self):
        rng = random.Random(3)
        told = {}
        for _ in range(100):
            machine = any_machine(rng, 150)
            steps = all_states(machine)
            every = [step for found in steps.values() for step in found]
            depth = max(step.depth for step in every)
            self.check_first(machine, most_frames(machine), depth, lambda step: step.depth == depth, has_depth(depth))
            waiting = max([len(machine.start.queue), *[len(step.state.queue) for step in every]])
            found = most_waiting(machine)
            self.assertEqual(found[0], waiting)
            if found[1] or len(machine.start.queue) < waiting:
                self.check_first(machine, found, waiting, lambda step: len(step.state.queue) == waiting, has_waiting(waiting))
            for name in "ab":
                choices = loses(machine, name)
                self.assertEqual(choices is not None, any(self.is_lost(step, name) for step in every))
                if choices is not None:
                    self.check_first(machine, (name, choices), name, lambda step: self.is_lost(step, name), has_lost(name))
                told["lost", choices is None] = told.get(("lost", choices is None), 0) + 1
            for level in (0, 1, 2, 3):
                number = longest_stretch(machine, level)
                self.assertEqual(number, self.greatest_stretch(steps, level))
                kind = number if number is None else min(number, 1)
                told["stretch", kind] = told.get(("stretch", kind), 0) + 1
            told["depth", depth] = told["waiting", waiting] = 1
        self.assertLessEqual({("lost", True), ("lost", False), ("stretch", None), ("stretch", 0), ("stretch", 1),
                              ("depth", 2), ("depth", 3), ("waiting", 0), ("waiting", 1), ("waiting", 4)}, set(told))

    def check_first(self, machine, found, number, holds, holds_of_run):
        self.assertEqual(found, (number, first_of_layers(machine, holds)))
        if len(found[1]) <= 2:
            self.assertEqual(first_run(machine, len(found[1]), holds_of_run), found[1])

    def is_lost(self, step, name):
        return ("lost", name) in [event[1:] for event in step.events]

    def greatest_stretch(self, steps, level):
        """The number of ticks that states can still have is made greater until nothing changes."""
        behind = {text: [step.state.text for step in found if step.height >= level] for text, found in steps.items()}
        numbers = {text: 0 for text in steps}
        for _ in range(len(steps) + 1):
            last = numbers
            numbers = {text: max([0, *[1 + last[to] for to in found]]) for text, found in behind.items()}
            if numbers == last:
                return max(numbers.values())
        return None


if __name__ == "__main__":
    unittest.main()

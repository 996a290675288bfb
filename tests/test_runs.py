"""Tests of runs, and of what holds for all runs."""

import random
import unittest
from itertools import islice

from interruptruns.errors import InvalidChoice, InvalidNumber
from interruptruns.formats import format_program, parse_program
from interruptruns.machine import Machine
from interruptruns.runs import Run, runs
from interruptruns.states import is_state, parse_state
from oracle import World
from samples import any_program
from small import NOTHING, background, choice, machine_of, source, task

SMALL = (source("a", 1, 2, "run 1; answer a"),)
BRANCHES = (
    source("b", 2, 3, "either; run 1; or; end; run 1; answer b", enter=1),
    source("a", 1, 4, "run 1; post job", keep=2),
    task("job", "run 1; answer a"),
)
FAULTS = ((0, 0), (3, 0), (0, 3), (2, 1), (0, 0))


def any_run(machine, ticks, rng):
    """The choices of a run that the generator determines."""
    found, state = [], machine.start
    for _ in range(ticks):
        step = rng.choice(machine.steps(state))
        found.append(step.choice)
        state = step.state
    return found


def any_machine(seed):
    overruns, early = FAULTS[seed % len(FAULTS)]
    return Machine(any_program(seed), overruns=overruns, early=early)


class RunTests(unittest.TestCase):
    def setUp(self):
        self.machine = machine_of(*SMALL)
        self.choices = [choice("a"), NOTHING, choice("a")]

    def test_the_example(self):
        run = Run(self.machine, [(("a",), False, ()), ((), False, ())])
        self.assertEqual((len(run), run.last.text), (2, "main:0:1:0:- 0 0 1 x - - 0,0"))

    def test_properties(self):
        run = Run(self.machine, self.choices)
        self.assertIs(run.machine, self.machine)
        self.assertEqual(run.choices, tuple(self.choices))
        self.assertIsInstance(run.choices, tuple)
        self.assertEqual([state.ages for state in run.states], [(2,), (0,), (1,), (0,)])
        self.assertEqual(run.states[0], self.machine.start)
        self.assertEqual(run.last, run.states[-1])
        self.assertEqual(run.events, [
            (0, "request", "a"), (0, "enter", "a"), (1, "answer", "a"), (1, "leave", "a"),
            (2, "request", "a"), (2, "enter", "a"), (3, "answer", "a"), (3, "leave", "a"),
        ])
        self.assertEqual(len(run), 3)

    def test_no_ticks(self):
        for choices in ([], ()):
            run = Run(machine=self.machine, choices=choices)
            self.assertEqual((len(run), run.choices, run.events), (0, (), []))
            self.assertEqual((run.states, run.last), ([self.machine.start], self.machine.start))

    def test_lists_are_new_and_arguments_are_not_kept(self):
        run = Run(self.machine, self.choices)
        self.choices.clear()
        run.states.clear()
        run.events.clear()
        self.assertEqual((len(run.choices), len(run.states), len(run.events)), (3, 4, 8))

    def test_events_of_a_tick_end_in_the_moment_in_which_the_next_one_begins(self):
        machine = machine_of(source("a", 1, 1, "run 1; answer a"))
        run = Run(machine, [choice("a"), choice("a")])
        self.assertEqual([event[:2] for event in run.events], [
            (0, "request"), (0, "enter"), (1, "answer"), (1, "leave"),
            (1, "request"), (1, "enter"), (2, "answer"), (2, "leave")])

    def test_equality(self):
        run = Run(self.machine, self.choices)
        self.assertEqual(run, Run(machine_of(*SMALL), tuple(self.choices)))
        self.assertFalse(run != Run(machine_of(*SMALL), tuple(self.choices)))
        self.assertNotEqual(run, Run(self.machine, self.choices[:2]))
        self.assertNotEqual(run, Run(self.machine, [NOTHING, choice("a"), NOTHING]))
        self.assertNotEqual(run, Run(machine_of(*SMALL, overruns=1), self.choices))
        for other in (run.choices, list(run.choices), None, self.machine, 3):
            self.assertFalse(run == other)

    def test_more(self):
        run = Run(self.machine, self.choices[:1])
        longer = run.more(self.choices[1:])
        self.assertEqual(longer, Run(self.machine, self.choices))
        self.assertEqual(longer.events, Run(self.machine, self.choices).events)
        self.assertEqual(longer.states, Run(self.machine, self.choices).states)
        self.assertEqual((len(run), run.events[-1]), (1, (1, "leave", "a")))
        self.assertEqual(run.more(choices=()), run)
        self.assertEqual(Run(self.machine, ()).more(tuple(self.choices)), longer)

    def test_more_again_and_again(self):
        run = Run(self.machine, [])
        for at in range(1000):
            run = run.more([NOTHING if at % 2 else choice("a")])
        self.assertEqual((len(run), len(run.events)), (1000, 2000))

    def test_choices_that_are_no_list(self):
        for value in (None, 0, True, "", "a", {}, {1}, object(), NOTHING.__iter__(), Run(self.machine, [])):
            for call in (lambda: Run(self.machine, value), lambda: Run(self.machine, ()).more(value)):
                with self.assertRaises(InvalidChoice) as caught:
                    call()
                self.assertIs(caught.exception.value, value)

    def test_the_first_choice_that_is_not_possible(self):
        early = choice("a")
        wrong = (early, (("b",), False, ()), None, "choice", [(), False, ()], ((), True, ()), ((), False, (True,)))
        for value in wrong:
            choices = [NOTHING, choice("a"), value, object(), None]
            with self.assertRaises(InvalidChoice) as caught:
                Run(self.machine, choices)
            self.assertIs(caught.exception.value, value)
            with self.assertRaises(InvalidChoice) as caught:
                Run(self.machine, choices[:2]).more(tuple(choices[2:]))
            self.assertIs(caught.exception.value, value)

    def test_a_choice_as_choices(self):
        with self.assertRaises(InvalidChoice) as caught:
            Run(self.machine, NOTHING)
        self.assertEqual(caught.exception.value, ())


class RunsTests(unittest.TestCase):
    def test_the_example(self):
        found = [[one[0] for one in run.choices] for run in runs(machine_of(*SMALL), 2)]
        self.assertEqual(found, [[(), ()], [(), ("a",)], [("a",), ()]])

    def test_no_ticks(self):
        machine = machine_of(*SMALL)
        self.assertEqual(list(runs(machine=machine, ticks=0)), [Run(machine, [])])

    def test_all_runs_in_their_order(self):
        for parts, faults in ((SMALL, {"early": 1}), (BRANCHES, {"overruns": 1}), (SMALL, {"overruns": 2})):
            machine = machine_of(*parts, **faults)
            lists = [[]]
            for ticks in range(5):
                found = list(runs(machine, ticks))
                self.assertEqual([list(run.choices) for run in found], lists)
                self.assertEqual(lists, sorted(lists))
                for run in found[::7]:
                    self.assertEqual(run, Run(machine, run.choices))
                    self.assertEqual(run.events, Run(machine, run.choices).events)
                    self.assertEqual(run.states, Run(machine, run.choices).states)
                    self.assertEqual((len(run), run.machine), (ticks, machine))
                lists = [[*run.choices, step.choice] for run in found for step in machine.steps(run.last)]

    def test_the_first_ones_of_a_great_length(self):
        machine = machine_of(*BRANCHES, overruns=3, early=3)
        found = list(islice(runs(machine, 1000), 3))
        self.assertEqual([len(run) for run in found], [1000] * 3)
        self.assertEqual(found[0].choices, (NOTHING,) * 1000)
        self.assertEqual(found[1].choices, (NOTHING,) * 999 + (choice(over=True),))
        self.assertEqual(found[2].choices, (NOTHING,) * 999 + (choice("a"),))

    def test_runs_that_were_given_do_not_change(self):
        given = runs(machine_of(*SMALL), 3)
        first = next(given)
        choices, events = first.choices, first.events
        list(given)
        self.assertEqual((first.choices, first.events), (choices, events))

    def test_wrong_numbers(self):
        machine = machine_of(*SMALL)
        for wrong in (-1, 1001, True, False, None, "2", 2.0, (), [], object()):
            given = runs(machine, wrong)
            with self.assertRaises(InvalidNumber) as caught:
                next(given)
            self.assertIs(caught.exception.value, wrong)


class AllRunsTests(unittest.TestCase):
    def test_a_second_reading_of_any_runs(self):
        for seed in range(150):
            machine = any_machine(seed)
            rng = random.Random(seed)
            world = World(machine.program, machine.overruns, machine.early)
            state = machine.start
            self.assertEqual(state.text, world.text(), seed)
            for one in any_run(machine, 40, rng):
                step = machine.step(state, one)
                self.assertEqual((step.events, step.depth, step.height), world.tick(one), seed)
                self.assertEqual(step.state.text, world.text(), seed)
                state = step.state
                self.assertIs(is_state(machine.program, state), True)

    def test_no_run_has_more_faults_than_there_may_be(self):
        for seed in range(60):
            machine = any_machine(seed)
            run = Run(machine, any_run(machine, 60, random.Random(seed)))
            kinds = [kind for moment, kind, name in run.events]
            used = kinds.count("over"), kinds.count("early")
            self.assertLessEqual(used, (machine.overruns, machine.early))
            self.assertEqual(run.last.spare, (machine.overruns - used[0], machine.early - used[1]))

    def test_programs_that_are_read_back_have_the_same_runs(self):
        for seed in range(30):
            machine = any_machine(seed)
            program = parse_program(format_program(machine.program))
            again = Machine(program, overruns=machine.overruns, early=machine.early)
            choices = any_run(machine, 40, random.Random(seed))
            run, same = Run(machine, choices), Run(again, choices)
            self.assertEqual(run, same)
            self.assertEqual((run.events, run.states), (same.events, same.states))
            self.assertEqual([one.choices for one in islice(runs(machine, 3), 50)],
                             [one.choices for one in islice(runs(again, 3), 50)])

    def test_states_that_are_read_back_go_on_as_before(self):
        for seed in range(30):
            machine = any_machine(seed)
            for state in Run(machine, any_run(machine, 30, random.Random(seed))).states[::5]:
                again = parse_state(machine.program, state.text)
                self.assertEqual(again, state)
                self.assertEqual(machine.steps(again), machine.steps(state))

    def test_gaps_are_kept(self):
        machine = machine_of(*BRANCHES, background("run 3"))
        for seed in range(20):
            run = Run(machine, any_run(machine, 60, random.Random(seed)))
            for name, gap in (("b", 3), ("a", 4)):
                moments = [moment for moment, kind, what in run.events if (kind, what) == ("request", name)]
                self.assertTrue(all(late - soon >= gap for soon, late in zip(moments, moments[1:])))


if __name__ == "__main__":
    unittest.main()

"""Tests of machines: their properties, all steps of a state, one step, and states after some ticks."""

import unittest

from interruptruns.errors import InvalidChoice, InvalidNumber, InvalidState
from interruptruns.formats import parse_program
from interruptruns.machine import Machine, Step
from interruptruns.states import State, is_state, parse_state
from oracle import possible_choices, world_behind
from samples import any_program
from small import NOTHING, background, choice, go, last, machine_of, program_of, source, task

WRONG_NUMBERS = (-1, 4, 10 ** 20, True, False, None, "1", "", (1,), [], 1.0, object())
NO_STATES = (None, 0, "main:0:1:0:- 0 0 2 x - - 0,0", (), [], {}, object(), State((), (), (), (), (), (), (), ()))
BRANCHES = (
    source("b", 2, 3, "either; run 1; or; end; run 1; either; run 1; or; run 2; end", enter=2, leave=2),
    source("a", 1, 9, "run 1; loop 2; run 1; end; post job", keep=2),
    task("job", "run 1"),
    background("run 1; either; mask 1; or; end; run 2"),
)


class MachineTests(unittest.TestCase):
    def test_properties(self):
        program = program_of(source("a", 1, 2, "run 1"))
        machine = Machine(program, overruns=3, early=1)
        self.assertIs(machine.program, program)
        self.assertEqual((machine.overruns, machine.early, machine.start.spare), (3, 1, (3, 1)))
        machine = Machine(program=program)
        self.assertEqual((machine.overruns, machine.early, machine.start.spare), (0, 0, (0, 0)))
        self.assertTrue(is_state(program, machine.start))
        self.assertIsInstance(machine.start, State)

    def test_equality_by_each_property(self):
        program = program_of(source("a", 1, 2, "run 1"))
        same = program_of(source("a", 1, 2, "run 1"))
        other = program_of(source("a", 1, 2, "run 2"))
        machine = Machine(program, overruns=1, early=2)
        self.assertEqual(machine, Machine(same, overruns=1, early=2))
        self.assertFalse(machine != Machine(same, overruns=1, early=2))
        self.assertNotEqual(machine, Machine(other, overruns=1, early=2))
        self.assertNotEqual(machine, Machine(program, overruns=2, early=2))
        self.assertNotEqual(machine, Machine(program, overruns=1, early=1))
        for thing in (program, None, "machine", (program, 1, 2), machine.start):
            self.assertFalse(machine == thing)

    def test_wrong_numbers(self):
        program = program_of(source("a", 1, 2, "run 1"))
        for wrong in WRONG_NUMBERS:
            for numbers in ({"overruns": wrong}, {"early": wrong}, {"overruns": wrong, "early": object()},
                            {"overruns": 3, "early": wrong}):
                with self.assertRaises(InvalidNumber) as caught:
                    Machine(program, **numbers)
                self.assertIs(caught.exception.value, wrong)
        with self.assertRaises(TypeError):
            Machine(program, 1, 2)

    def test_bounds(self):
        program = program_of(source("a", 1, 2, "run 1"))
        for number in range(4):
            machine = Machine(program, overruns=number, early=3 - number)
            self.assertEqual((machine.overruns, machine.early), (number, 3 - number))


class StepsTests(unittest.TestCase):
    def check(self, machine, *choices):
        """Each possible choice is there once, in list order, and step does the same."""
        state = machine.start
        for one in choices:
            state = machine.step(state, one).state
        steps = machine.steps(state)
        found = [step.choice for step in steps]
        faults = machine.overruns, machine.early
        self.assertEqual(found, possible_choices(machine.program, faults, choices))
        self.assertEqual(found, sorted(found))
        for step in steps:
            self.assertIsInstance(step, Step)
            same = machine.step(state, step.choice)
            self.assertEqual((same.choice, same.state, same.events, same.depth, same.height),
                             (step.choice, step.state, step.events, step.depth, step.height))
            world, told = world_behind(machine.program, faults, [*choices, step.choice])
            self.assertEqual((step.events, step.depth, step.height), told)
            self.assertEqual(step.state.text, world.text())
        return steps

    def test_all_choices(self):
        machine = machine_of(*BRANCHES, overruns=1, early=1)
        choices = []
        for at in (0, 5, 7, 3, 2, 0, 4, 1, 3, 0, 2, 9, 1):
            steps = self.check(machine, *choices)
            choices.append(steps[at % len(steps)].choice)

    def test_an_example(self):
        machine = machine_of(*BRANCHES, overruns=1)
        found = [step.choice for step in machine.steps(machine.start)]
        self.assertEqual(found, [
            choice("", False, "0"), choice("", False, "1"), choice("", True),
            choice("a", False, "0"), choice("a", False, "1"), choice("a", True),
            choice("b"), choice("b a"),
        ])

    def test_requests_are_in_the_order_of_the_program_and_lists_in_that_of_names(self):
        machine = machine_of(source("b", 1, 9, "run 1"), source("a", 2, 9, "run 1"), source("c", 3, 9, "run 1"))
        found = [step.choice[0] for step in machine.steps(machine.start)]
        self.assertEqual(found, [(), ("a",), ("a", "c"), ("b",), ("b", "a"), ("b", "a", "c"), ("b", "c"), ("c",)])

    def test_any_programs(self):
        for seed in range(40):
            machine = Machine(any_program(seed), overruns=seed % 2, early=seed % 3)
            choices = []
            for at in range(3):
                steps = self.check(machine, *choices)
                choices.append(steps[seed % len(steps)].choice)

    def test_lists_are_new(self):
        machine = machine_of(*BRANCHES)
        machine.steps(machine.start).clear()
        steps = machine.steps(machine.start)
        self.assertEqual(len(steps), 6)
        step = steps[-1]
        step.events.append("event")
        self.assertEqual(step.events, [(0, "request", "b"), (0, "request", "a"), (0, "enter", "b")])
        self.assertIsNot(step.events, step.events)
        self.assertEqual(machine.steps(machine.start), steps)
        self.assertNotEqual(steps[0], steps[1])
        self.assertFalse(steps[0] == steps[0].choice)

    def test_wrong_states(self):
        machine = machine_of(*BRANCHES)
        for value in NO_STATES:
            with self.assertRaises(InvalidState) as caught:
                machine.steps(value)
            self.assertIs(caught.exception.value, value)
            for one in (NOTHING, None, "choice"):
                with self.assertRaises(InvalidState) as caught:
                    machine.step(value, one)
                self.assertIs(caught.exception.value, value)

    def test_by_names(self):
        machine = machine_of(*BRANCHES)
        self.assertEqual(machine.steps(state=machine.start), machine.steps(machine.start))
        one = choice("", False, "1")
        self.assertEqual(machine.step(state=machine.start, choice=one), machine.step(machine.start, one))

    def test_states_that_no_run_reaches(self):
        machine = machine_of(*BRANCHES, overruns=1)
        text = "main:1:2:7:-/job:0:1:9:-/a:1:1:3:1/b:out:1:0:- 1,2 6,0 1,4 0,50 job,job,job,job - 9,8"
        state = parse_state(machine.program, text)
        steps = machine.steps(state)
        self.assertEqual([step.choice[0] for step in steps], [(), ("a",), ("b",), ("b", "a")])
        step = machine.step(state, choice("b a"))
        self.assertEqual(step.events, [
            (0, "timer", "b"), (0, "lost", "b"), (0, "early", "b"), (0, "lost", "b"),
            (0, "early", "a"), (0, "lost", "a"), (1, "leave", "b")])
        self.assertEqual((step.depth, step.height), (4, 2))
        self.assertEqual(
            step.state.text,
            "main:1:2:7:-/job:0:1:9:-/a:1:1:3:1 1,2 6,0 0,0 x,49 job,job,job,job - 9,6",
        )

    def test_a_state_of_another_machine_of_the_program(self):
        machine = machine_of(*BRANCHES)
        other = Machine(machine.program, overruns=2, early=3)
        step = machine.step(other.start, choice("", True))
        self.assertEqual(step.state.spare, (1, 3))

    def test_depth_and_height(self):
        machine = machine_of(source("a", 2, 9, "run 1; mask 5; run 1"), source("b", 4, 9, "run 1"),
                             source("c", 7, 9, "run 1"), background("mask 1; run 9"))
        steps = go(machine, "", "a", "b", "c", "")
        self.assertEqual([(step.depth, step.height) for step in steps], [(1, 1), (2, 2), (2, 5), (2, 7), (2, 4)])


class StepTests(unittest.TestCase):
    def setUp(self):
        self.machine = machine_of(*BRANCHES, overruns=1, early=1)
        self.state = last(self.machine, "b a")

    def check_refused(self, value, machine=None, state=None):
        with self.assertRaises(InvalidChoice) as caught:
            (machine or self.machine).step(state or self.state, value)
        self.assertIs(caught.exception.value, value)

    def test_requests(self):
        for names in (("none",), ("job",), ("main",), ("a", "b"), ("a", "a"), ("b", "b"), ("b", "a", "a"),
                      ("",), (None,), (0,), (("a",),), (["a"],), (object(),), ["a"], "a", None, {}, ("b", "a")):
            self.check_refused((names, False, ()))
            self.check_refused((names, False, (True,)))
        # Both of them would be early ones, and only one may come.
        for names in ((), ("a",), ("b",)):
            self.assertEqual(self.machine.step(self.state, (names, False, (True,))).choice[0], names)

    def test_over(self):
        for over in (0, 1, None, "", "0", (), [], object()):
            self.check_refused(((), over, (True,)))
            self.check_refused(((), over, ()))
        # The frame is at "in", so there is none.
        self.check_refused(((), True, ()))
        self.check_refused(((), True, (True,)))

    def test_over_at_a_run(self):
        start = self.machine.start
        self.assertEqual(self.machine.step(start, ((), True, ())).events, [(1, "over", "main")])
        self.check_refused(((), True, (True,)), state=start)
        spent = self.machine.step(start, ((), True, ())).state
        self.check_refused(((), True, ()), state=spent)

    def test_ways(self):
        for ways in ((), (True, True), (True, False, True), (False,) * 3, (1,), (0,), (None,), ("1",), [True],
                     "1", True, None, {}, ((True,),)):
            self.check_refused(((), False, ways))
        # The way False leads to a run at once, and so does True.
        self.assertEqual([step.choice[2] for step in self.machine.steps(self.state) if not step.choice[0]],
                         [(False,), (True,)])

    def test_other_values(self):
        right = ((), False, (True,))
        self.assertEqual(self.machine.step(self.state, right).choice, right)
        for value in (None, 0, True, "", "((), False, ())", (), ((),), ((), False), (*right, ()), list(right),
                      {}, object(), [right], self.machine.steps(self.state)[0], (right,)):
            self.check_refused(value)

    def test_everything_else_is_refused(self):
        possible = [step.choice for step in self.machine.steps(self.state)]
        ways = [()]
        for one in ways:
            if len(one) < 4:
                ways.extend([(*one, False), (*one, True)])
        accepted = []
        for names in ((), ("a",), ("b",), ("b", "a"), ("a", "b")):
            for over in (False, True):
                for one in ways:
                    value = (names, over, one)
                    if value in possible:
                        accepted.append(value)
                        self.machine.step(self.state, value)
                    else:
                        self.check_refused(value)
        self.assertEqual(sorted(accepted), possible)


class AfterTests(unittest.TestCase):
    def test_the_example(self):
        machine = machine_of(source("a", 1, 2, "run 1; answer a"))
        self.assertEqual([state.text for state in machine.after(1)],
                         ["main:0:1:0:- 0 0 0 x - - 0,0", "main:0:1:0:- 0 0 2 x - - 0,0"])

    def test_no_ticks(self):
        machine = machine_of(*BRANCHES, overruns=2)
        self.assertEqual(machine.after(0), [machine.start])

    def test_the_states_of_all_steps(self):
        for parts, faults in ((BRANCHES, {"overruns": 1}), (BRANCHES[:1], {}), (BRANCHES[:1], {"early": 2})):
            machine = machine_of(*parts, **faults)
            states = {machine.start.text: machine.start}
            for ticks in range(9):
                found = machine.after(ticks)
                self.assertEqual([state.text for state in found], sorted(states))
                self.assertTrue(all(isinstance(state, State) for state in found))
                behind = [step.state for state in states.values() for step in machine.steps(state)]
                states = {state.text: state for state in behind}

    def test_many_ticks(self):
        # All that is there comes again after 2 ticks, and after 3 ticks.
        for ticks in (2, 3):
            machine = machine_of(source("a", 1, 1, f"run {ticks}; answer a"), background(f"mask 9; run {ticks}"))
            for many in (0, 1, 7, 100, 101, 102, 999, 1000):
                found = {state.frames[0][2] for state in machine.after(many)}
                self.assertEqual(found, {ticks - many % ticks}, many)

    def test_many_ticks_of_many_states(self):
        machine = machine_of(source("b", 2, 9, "run 2; answer b"), source("a", 1, 30, "run 3; answer a"),
                             background("mask 1; run 3; unmask; run 2"))
        self.assertEqual(machine.after(1000), machine.after(999))
        self.assertGreater(len(machine.after(1000)), 1000)

    def test_lists_are_new(self):
        machine = machine_of(source("a", 1, 2, "run 1; answer a"))
        machine.after(3).clear()
        self.assertEqual(len(machine.after(ticks=3)), 3)

    def test_wrong_numbers(self):
        machine = machine_of(source("a", 1, 2, "run 1"))
        for wrong in (-1, 1001, True, False, None, "5", 2.0, (), object()):
            with self.assertRaises(InvalidNumber) as caught:
                machine.after(wrong)
            self.assertIs(caught.exception.value, wrong)


class DocumentTests(unittest.TestCase):
    def test_the_first_example(self):
        program = parse_program(
            "source fast level 2 gap 7 keep 1 enter 0 leave 0\nrun 2\nanswer fast\nend\n"
            "background\nmask 9\nrun 1\nunmask\nrun 3\nend"
        )
        machine = Machine(program)
        one = machine.step(machine.start, (("fast",), False, ()))
        two = machine.step(one.state, ((), False, ()))
        three = machine.step(two.state, ((), False, ()))
        self.assertEqual(
            [machine.start.text, one.state.text, two.state.text, three.state.text],
            ["main:0:1:9:- 0 0 7 x - - 0,0", "main:1:3:0:- 1 1 0 x - - 0,0",
             "main:1:3:0:-/fast:0:1:0:- 0 1 1 x - - 0,0", "main:1:3:0:- 0 0 2 x - - 0,0"],
        )

    def test_the_second_example(self):
        machine = machine_of(source("a", 1, 2, "run 1; answer a"))
        step = machine.step(machine.start, (("a",), False, ()))
        self.assertEqual([one.choice for one in machine.steps(machine.start)],
                         [((), False, ()), (("a",), False, ())])
        self.assertEqual(step.events, [(0, "request", "a"), (0, "enter", "a"), (1, "answer", "a"), (1, "leave", "a")])

    def test_the_example_of_states(self):
        program = program_of(source("fast", 2, 7, "run 2; answer fast"), background("mask 9; run 1; unmask; run 3"))
        state = parse_state(program, "main:0:1:9:- 1 1 4 x - - 0,0")
        other = State((), (0,), (0,), (7,), (None,), (), (), (0, 0))
        self.assertEqual((state.frames, state.timers, state.queue, is_state(program, other)),
                         ((("main", 0, 1, 9, ()),), (None,), (), False))


if __name__ == "__main__":
    unittest.main()

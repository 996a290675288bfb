"""Tests of all states that can be there."""

import unittest

from interruptruns.errors import InvalidNumber, InvalidState, TooMany
from interruptruns.machine import Machine
from interruptruns.reach import Reach, is_closed
from interruptruns.runs import Run
from interruptruns.states import State, parse_state
from samples import any_program
from small import NOTHING, background, choice, machine_of, source, task

SMALL = (source("a", 1, 2, "run 1; answer a"),)
# Two sources, ways, a task and a counter.
MIXED = (
    "counter c 2",
    source("b", 2, 4, "either; run 1; or; add c; end; run 1; answer b", enter=1),
    source("a", 1, 6, "run 1; when c; post job; take c; or; end; answer a"),
    task("job", "run 1; either; run 1; or; end"),
)
NO_STATES = (None, 0, True, "main:0:1:0:- 0 0 2 x - - 0,0", (), [], {}, object(), State, [1],
             State((), (), (), (), (), (), (), ()), State([], {}, [], None, 0, {1}, [[]], object()))


def states_of(machine):
    """All states of a machine by their texts, with the first one of the shortest ways to each."""
    found = {machine.start.text: (machine.start, [])}
    row = [machine.start.text]
    while row:
        following = {}
        for text in row:
            state, way = found[text]
            for step in machine.steps(state):
                if step.state.text not in found:
                    longer = [*way, step.choice]
                    old = following.get(step.state.text)
                    if old is None or longer < old[1]:
                        following[step.state.text] = (step.state, longer)
        found.update(following)
        row = list(following)
    return found


def machines():
    return [
        machine_of(*SMALL), machine_of(*SMALL, overruns=2, early=1), machine_of(*MIXED),
        machine_of(*MIXED[:2], overruns=1), machine_of(*SMALL, background("run 1; either; run 3; or; end; raise a")),
    ]


class ReachTests(unittest.TestCase):
    def test_all_states_in_their_order(self):
        for machine in machines():
            states = states_of(machine)
            reach = Reach(machine)
            self.assertEqual([state.text for state in reach.walk()], sorted(states))
            self.assertTrue(all(isinstance(state, State) for state in reach.walk()))
            self.assertEqual(len(reach), len(states))

    def test_the_example(self):
        machine = machine_of(*SMALL)
        reach = Reach(machine)
        self.assertEqual((len(reach), machine.start in reach), (3, True))
        self.assertEqual([state.text for state in reach.walk()],
                         [f"main:0:1:0:- 0 0 {age} x - - 0,0" for age in (0, 1, 2)])

    def test_some_thousand_states(self):
        machine = machine_of(source("b", 2, 20, "run 2; answer b"), source("a", 1, 40, "run 3; answer a"),
                             background("mask 1; run 3; unmask; run 2"))
        states = states_of(machine)
        self.assertGreater(len(states), 3000)
        reach = Reach(machine, 20000)
        self.assertEqual([state.text for state in reach.walk()], sorted(states))
        for text in sorted(states)[::97]:
            self.assertEqual(reach.way(states[text][0]), states[text][1])
        with self.assertRaises(TooMany):
            Reach(machine, len(states) - 1)
        self.assertEqual(len(Reach(machine, len(states))), len(states))

    def test_in(self):
        machine = machine_of(*SMALL)
        reach = Reach(machine)
        for age in (0, 1, 2):
            self.assertIs(parse_state(machine.program, f"main:0:1:0:- 0 0 {age} x - - 0,0") in reach, True)
        for text in ("main:0:1:0:- 0 1 2 x - - 0,0", "main:0:1:3:- 0 0 2 x - - 0,0",
                     "main:0:1:0:- 0 0 2 x - - 1,0", "main:0:1:0:-/a:0:1:0:- 0 1 0 x - - 0,0"):
            self.assertIs(parse_state(machine.program, text) in reach, False)
        for value in NO_STATES:
            self.assertIs(value in reach, False)
        # It has the text of a state that can be there, but a list in it.
        self.assertIs(State([("main", 0, 1, 0, ())], (0,), (0,), (2,), (None,), (), (), (0, 0)) in reach, False)

    def test_the_limit(self):
        for machine in machines():
            many = len(states_of(machine))
            self.assertEqual(len(Reach(machine, many)), many)
            self.assertEqual(len(Reach(machine=machine, limit=100000)), many)
            for limit in (1, many // 2, many - 1):
                with self.assertRaises(TooMany) as caught:
                    Reach(machine, limit)
                self.assertEqual(caught.exception.limit, limit)

    def test_the_default_limit(self):
        # A timer for each number of ticks, and as many ages.
        def machine(gap):
            return machine_of(source("a", 1, gap, "run 1; answer a"), source("b", 1, 50, "run 1; answer b"),
                              background("run 1"))

        many = len(Reach(machine(50), 100000))
        self.assertLess(many, 5000)
        larger = machine_of(source("a", 1, 50, "run 1; answer a"), source("b", 1, 50, "run 1; answer b"),
                            background("run 3"))
        with self.assertRaises(TooMany) as caught:
            Reach(larger)
        self.assertEqual(caught.exception.limit, 5000)
        self.assertGreater(len(Reach(larger, 100000)), 5000)

    def test_one_state(self):
        machine = machine_of(source("a", 1, 1, "run 1; answer a"), background("mask 9; run 1; answer a"))
        many = len(states_of(machine))
        self.assertEqual(len(Reach(machine, many)), many)

    def test_wrong_limits(self):
        machine = machine_of(*SMALL)
        for limit in (0, -1, 100001, 10 ** 20, True, False, None, "5", 5.0, (), [], object()):
            with self.assertRaises(InvalidNumber) as caught:
                Reach(machine, limit)
            self.assertIs(caught.exception.value, limit)

    def test_ways(self):
        for machine in machines():
            reach = Reach(machine)
            for text, (state, way) in states_of(machine).items():
                found = reach.way(state)
                self.assertEqual(found, way, text)
                self.assertIsInstance(found, list)
                self.assertEqual(Run(machine, found).last, state)

    def test_ways_by_hand(self):
        machine = machine_of(source("b", 1, 3, "run 1; answer b"), source("a", 1, 3, "run 1; answer a"),
                             background("run 1; either; or; mask 1; end"), overruns=1)

        def way(text):
            return Reach(machine, 20000).way(state=parse_state(machine.program, text))

        self.assertEqual(way(machine.start.text), [])
        self.assertEqual(way("main:0:1:0:- 0,0 0,0 0,3 x,x - - 1,0"), [choice("b")])
        self.assertEqual(way("main:0:1:0:- 0,0 0,0 1,1 x,x - - 1,0"), [choice("b a"), NOTHING])
        self.assertEqual(way("main:0:1:0:- 0,0 0,0 0,1 x,x - - 1,0"), [choice("a"), choice("b")])
        # With an overrun of a, of b, or of the background behind them: a comes first.
        self.assertEqual(way("main:0:1:0:- 0,0 0,0 2,2 x,x - - 0,0"),
                         [choice("b a"), NOTHING, choice(over=True)])

    def test_lists_of_ways_are_new(self):
        machine = machine_of(*SMALL)
        reach = Reach(machine)
        state = machine.after(2)[-1]
        way = reach.way(state)
        way.append("choice")
        self.assertEqual(reach.way(state), way[:-1])

    def test_ways_to_others(self):
        machine = machine_of(*SMALL)
        reach = Reach(machine)
        other = parse_state(machine.program, "main:0:1:3:- 0 0 2 x - - 0,0")
        for value in (*NO_STATES, other):
            with self.assertRaises(InvalidState) as caught:
                reach.way(value)
            self.assertIs(caught.exception.value, value)

    def test_walks_are_independent(self):
        reach = Reach(machine_of(*MIXED))
        first, second = reach.walk(), reach.walk()
        next(first)
        self.assertEqual([next(first).text, next(first).text], [state.text for state in second][1:3])


class IsClosedTests(unittest.TestCase):
    def check(self, right, machine, value):
        self.assertIs(is_closed(machine, value), right)

    def test_all_states(self):
        for machine in machines():
            states = list(Reach(machine).walk())
            self.check(True, machine, states)
            self.check(True, machine, tuple(states))
            self.check(True, machine, states[::-1])
            self.check(True, machine, states + states[:2])

    def test_one_left_out(self):
        for machine in machines()[:2] + machines()[3:]:
            states = list(Reach(machine).walk())
            for at in range(len(states)):
                self.check(False, machine, states[:at] + states[at + 1:])

    def test_more_states(self):
        machine = machine_of(*SMALL)
        states = list(Reach(machine).walk())
        # From here a step leads to a state that is there, and one to another one.
        other = parse_state(machine.program, "main:0:1:0:- 0 1 0 x - - 0,0")
        self.check(False, machine, [*states, other])
        others = [other] + [parse_state(machine.program, f"main:0:1:0:- 0 1 {age} x - - 0,0") for age in (1, 2)]
        # A request more is answered by the one that comes next.
        self.check(True, machine, states + others)
        self.check(False, machine, others)

    def test_the_first_state_is_needed(self):
        machine = machine_of(*SMALL, background("run 1; unmask; run 1"), overruns=1)
        states = list(Reach(machine).walk())
        rest = [state for state in states if state.spare == (0, 0)]
        self.assertFalse(is_closed(machine, rest))
        self.check(True, Machine(machine.program), rest)
        self.check(True, Machine(machine.program), states)

    def test_states_of_another_program(self):
        machine = machine_of(*SMALL)
        states = list(Reach(machine).walk())
        other = machine_of(source("b", 1, 3, "run 1"))
        self.check(False, other, states)
        self.check(False, machine, [*states, other.start])

    def test_other_values(self):
        machine = machine_of(*SMALL)
        states = list(Reach(machine).walk())
        for value in (None, 0, True, "", "states", {}, {1: 2}, object(), machine.start, Reach(machine), iter(states),
                      [], (), [None], [*states, None], [*states, "text"], [*states, states], [state.text for state in states],
                      [*states, State((), (), (), (), (), (), (), ())], dict(enumerate(states)),
                      [*states, State([], {}, [], None, 0, {1}, [[]], object())]):
            self.check(False, machine, value)

    def test_by_names(self):
        machine = machine_of(*SMALL)
        self.assertIs(is_closed(machine=machine, value=list(Reach(machine).walk())), True)

    def test_any_programs(self):
        for seed in range(40):
            machine = Machine(any_program(seed))
            try:
                reach = Reach(machine, 300)
            except TooMany:
                continue
            self.assertIs(is_closed(machine, list(reach.walk())), True)


if __name__ == "__main__":
    unittest.main()

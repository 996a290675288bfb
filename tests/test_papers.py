"""Tests of papers: runs with a wait, rings and tables, right ones and spoiled ones."""

import random
import unittest

from interruptruns.errors import InvalidEvent
from interruptruns.longest import longest
from interruptruns.machine import Machine
from interruptruns.papers import is_ring, is_table, is_wait
from interruptruns.reach import Reach
from interruptruns.runs import Run
from interruptruns.states import State, parse_state
from second_waits import wait_behind, waits_begun
from small import NOTHING, background, choice, machine_of, source, task

FAST = source("fast", 2, 5, "run 2; answer fast")
SLOW = source("slow", 1, 12, "run 3; answer slow")
QUEUED = (source("a", 1, 3, "run 1; post job", keep=2), task("job", "run 1; answer a"))
THINGS = (None, 0, 1, True, "", "text", (), [], {}, {1: 2}, object(), [None], (None,), [0], "ab", State)
NO_QUESTIONS = (None, 0, "none", "main", "job", (), [], {}, object(), ("a", "b"), ["fast"],
                (("request", "fast"),), (("request", "fast"), ("answer", "none")))


def machines():
    """Machines and questions whose waits all have an end, and such as have not."""
    two = machine_of(FAST, SLOW)
    ending = [
        (two, "slow"), (two, "fast"), (two, (("enter", "fast"), ("leave", "fast"))),
        (two, (("asked", "slow"), ("answer", "slow"))), (two, (("lost", "fast"), ("answer", "slow"))),
        (machine_of(source("a", 1, 4, "run 2; answer a", keep=2), overruns=1, early=1), "a"),
        (machine_of(source("a", 1, 9, "answer a; run 1")), "a"),
        (machine_of("counter c 1", source("a", 1, 9, "run 2; answer a", keep=3),
                    background("when c; or; raise a; add c; end; run 3")), "a"),
        # Waits that begin at the end of a tick, and such as end there, too.
        (machine_of(source("a", 1, 9, "run 1; post job; answer a"), task("job", "run 3")), (("post", "job"), ("end", "job"))),
        (machine_of(source("a", 1, 9, "run 2; answer a")), (("answer", "a"), ("leave", "a"))),
        (machine_of(source("a", 1, 9, "run 1; answer a; raise b"), source("b", 2, 9, "run 2; answer b")), "b"),
    ]
    endless = [
        (machine_of(source("fast", 2, 2, "run 2; answer fast"), SLOW), "slow"),
        (machine_of(source("a", 1, 2, "run 1")), "a"), (two, (("answer", "slow"), ("request", "slow"))),
        (machine_of(source("a", 1, 3, "either; run 1; or; run 4; end; answer a"), background("mask 1; run 1; unmask; run 1"),
                    early=1), (("leave", "a"), ("early", "a"))),
    ]
    return ending, endless


def table_holds(machine, question, value, ticks):
    """The definition of a table, read once more, for a dict from pairs to counts."""
    if (machine.start.text, None) not in value:
        return False
    for (text, ahead), number in value.items():
        state = parse_state(machine.program, text)
        for step in machine.steps(state):
            if ahead is None:
                if (step.state.text, None) not in value:
                    return False
                for begin, end, left in waits_begun(machine, question, state, step.events):
                    if end is not None and end - begin > ticks:
                        return False
                    if end is None and (step.state.text, left) not in value:
                        return False
                    if end is None and 1 - begin + value[step.state.text, left] > ticks:
                        return False
            else:
                end, left = wait_behind(question, ahead, step.events)
                if end is not None and number < end:
                    return False
                if end is None and (step.state.text, left) not in value:
                    return False
                if end is None and number < 1 + value[step.state.text, left]:
                    return False
    return True


class QuestionTests(unittest.TestCase):
    def test_wrong_questions_come_first(self):
        machine = machine_of(FAST, SLOW)
        for question in NO_QUESTIONS:
            for call in (is_wait, is_ring, is_table):
                for thing in (None, [], {}, object()):
                    with self.assertRaises(InvalidEvent) as caught:
                        call(machine, question, thing, thing)
                    self.assertIs(caught.exception.value, question)

    def test_by_names(self):
        machine = machine_of(FAST, SLOW)
        found = longest(machine, "fast")
        self.assertIs(is_wait(machine=machine, question="fast", choices=found.choices, ticks=2), True)
        self.assertIs(is_table(machine=machine, question="fast", value=found.table, ticks=2), True)
        self.assertIs(is_ring(machine=machine, question="fast", choices=found.choices, ring=[]), False)


class IsWaitTests(unittest.TestCase):
    def check(self, right, *arguments):
        self.assertIs(is_wait(*arguments), right, arguments[1:])

    def test_what_is_found(self):
        for machine, question in machines()[0]:
            found = longest(machine, question)
            right = bool(found.choices)
            self.check(right, machine, question, found.choices, found.ticks)
            self.check(right, machine, question, tuple(found.choices), found.ticks)
            self.check(False, machine, question, found.choices, found.ticks + 1)
            self.check(False, machine, question, [], found.ticks)
            if found.ticks > 0:
                self.check(False, machine, question, found.choices[:-1], found.ticks)

    def test_further_ticks_behind_it(self):
        machine = machine_of(FAST, SLOW)
        found = longest(machine, "slow")
        self.check(True, machine, "slow", [*found.choices, NOTHING, NOTHING], found.ticks)

    def test_any_wait_of_the_run(self):
        machine = machine_of(source("a", 1, 2, "run 3; answer a", keep=2))
        choices = [choice("a"), NOTHING, choice("a"), NOTHING, choice("a"), *[NOTHING] * 4]
        for ticks in range(8):
            self.check(ticks in (3, 4, 5), machine, "a", choices, ticks)
        self.check(False, machine, "a", choices[:-1], 5)

    def test_a_wait_of_no_ticks(self):
        machine = machine_of(source("a", 1, 9, "answer a; run 1"))
        self.check(True, machine, "a", [choice("a")], 0)
        self.check(False, machine, "a", [NOTHING], 0)
        self.check(False, machine, "a", [], 0)

    def test_spoiled_choices(self):
        machine = machine_of(FAST, SLOW)
        choices = longest(machine, "slow").choices
        self.assertGreater(len(choices), 4)
        for at in range(len(choices)):
            if choices[at] != NOTHING:
                self.check(False, machine, "slow", choices[:at] + choices[at + 1:], 5)
        self.check(False, machine, "slow", choices[::-1], 5)
        self.check(False, machine, "slow", [*choices, ((), True, ())], 5)
        self.check(False, machine, "slow", [*choices, (("slow",), False, ()), (("slow",), False, ())], 5)
        self.check(False, machine, "slow", [((), False, (True,)), *choices], 5)

    def test_other_kinds(self):
        machine = machine_of(FAST, SLOW)
        choices = longest(machine, "slow").choices
        for thing in THINGS + (dict.fromkeys(choices), set(choices), iter(choices), Run(machine, choices)):
            self.check(False, machine, "slow", thing, 5)
            self.check(False, machine, "slow", [*choices, thing], 5)
        for ticks in (True, False, None, -1, "5", 5.0, (5,), [], {}, object()):
            self.check(False, machine, "slow", choices, ticks)
        one = machine_of(source("a", 1, 9, "run 1; answer a"))
        self.check(True, one, "a", [choice("a")], 1)
        self.check(False, one, "a", [choice("a")], True)


class IsRingTests(unittest.TestCase):
    def check(self, right, *arguments):
        self.assertIs(is_ring(*arguments), right, arguments[1:])

    def test_what_is_found(self):
        for machine, question in machines()[1]:
            found = longest(machine, question)
            choices, ring = found.choices, found.ring
            self.assertIsNone(found.ticks)
            self.check(True, machine, question, choices, ring)
            self.check(True, machine, question, tuple(choices), tuple(ring))
            self.check(True, machine, question, choices, ring * 3)
            self.check(True, machine, question, choices + ring, ring)
            self.check(False, machine, question, choices, [])
            self.check(False, machine, question, choices, ())
            self.check(False, machine, question, [], ring)

    def test_a_ring_that_is_turned(self):
        machine = machine_of(source("fast", 2, 2, "run 2; answer fast"), SLOW, background("run 1"))
        choices = [choice("fast slow")]
        ring = [NOTHING, choice("fast")]
        self.check(True, machine, "slow", choices + ring * 6, ring)
        self.check(False, machine, "slow", choices + ring * 6, ring[::-1])
        self.check(True, machine, "slow", choices + ring * 6 + ring[:1], ring[::-1])
        self.check(False, machine, "slow", choices + ring * 6 + ring[:1], ring)

    def test_another_state(self):
        machine = machine_of(source("a", 1, 2, "run 1"))
        # The age is not yet as it was.
        self.check(False, machine, "a", [choice("a")], [NOTHING])
        self.check(False, machine, "a", [choice("a"), NOTHING], [NOTHING])
        self.check(True, machine, "a", [choice("a"), NOTHING, NOTHING], [NOTHING])

    def test_no_wait_is_under_way(self):
        machine = machine_of(source("a", 1, 2, "run 1; answer a"))
        for choices in ([], [choice("a"), NOTHING, NOTHING]):
            self.check(False, machine, "a", choices, [NOTHING])

    def test_the_wait_ends_and_another_one_begins(self):
        machine = machine_of(source("a", 1, 2, "run 2; answer a"))
        choices = [choice("a")]
        ring = [NOTHING, choice("a")]
        self.assertEqual(Run(machine, choices).last, Run(machine, choices + ring).last)
        self.check(False, machine, "a", choices, ring)

    def test_another_number_ahead(self):
        # The number of requests that are owed is the same, but an earlier one was answered.
        machine = machine_of(source("a", 1, 1, "run 1; answer a; raise a", keep=3))
        run = Run(machine, [choice("a"), choice("a"), choice("a")])
        rings = 0
        for names in ("a", ""):
            for many in range(1, 6):
                longer = run.more([choice(names)] * many)
                if longer.last == run.last:
                    rings += 1
                    self.check(False, machine, "a", run.choices, [choice(names)] * many)
        self.assertGreater(rings, 0)

    def test_one_of_several_waits(self):
        # Nothing is answered here any more but what the task answers.
        machine = machine_of(source("a", 1, 1, "run 1", keep=3), source("b", 2, 9, "run 1; answer a"))
        choices = [choice("a"), choice("a"), *[NOTHING] * 9]
        self.check(True, machine, "a", choices, [NOTHING])
        self.check(True, machine, "a", [*choices, choice("b"), *[NOTHING] * 9], [NOTHING])
        self.check(False, machine, "a", [*choices, choice("b"), choice("", False), *[NOTHING] * 8, choice("b"), *[NOTHING] * 9],
                   [NOTHING])

    def test_spoiled_ones(self):
        machine = machine_of(source("a", 1, 2, "run 1"))
        choices = [choice("a"), NOTHING, NOTHING]
        self.check(False, machine, "a", choices, NOTHING)
        for thing in THINGS + (iter([NOTHING]), {NOTHING}, {NOTHING: 1}, Run(machine, [NOTHING])):
            self.check(False, machine, "a", choices, thing)
            self.check(False, machine, "a", choices, [thing])
            self.check(False, machine, "a", thing, [NOTHING])
            self.check(False, machine, "a", [*choices, thing], [NOTHING])
        self.check(False, machine, "a", choices, [((), True, ())])
        self.check(False, machine, "a", choices, [((), False, (True,))])
        self.check(False, machine, "a", [*choices, ((), True, ())], [NOTHING])


class IsTableTests(unittest.TestCase):
    def check(self, right, *arguments):
        self.assertIs(is_table(*arguments), right)

    def test_what_is_found(self):
        for machine, question in machines()[0]:
            found = longest(machine, question)
            self.check(True, machine, question, found.table, found.ticks)
            self.check(True, machine, question, found.table, found.ticks + 1)
            self.check(True, machine, question, dict(reversed(found.table.items())), found.ticks)
            if found.choices and found.ticks > 0:
                self.check(False, machine, question, found.table, found.ticks - 1)

    def test_one_number_less(self):
        for machine, question in machines()[0]:
            found = longest(machine, question)
            for pair, number in found.table.items():
                if pair[1] is not None:
                    self.check(False, machine, question, {**found.table, pair: number - 1}, found.ticks)

    def test_one_number_greater(self):
        for machine, question in machines()[0][:6]:
            found = longest(machine, question)
            for pair, number in list(found.table.items())[::3]:
                value = {**found.table, pair: number + 1}
                self.check(table_holds(machine, question, value, found.ticks), machine, question, value, found.ticks)
                if pair[1] is None:
                    self.check(True, machine, question, value, found.ticks)

    def test_a_pair_left_out(self):
        for machine, question in machines()[0]:
            found = longest(machine, question)
            for pair in list(found.table)[::3]:
                value = {one: number for one, number in found.table.items() if one != pair}
                self.check(False, machine, question, value, found.ticks)

    def test_more_pairs(self):
        machine = machine_of(FAST, SLOW)
        found = longest(machine, "slow")
        # No run owes this one an answer; behind it, other states have to be there.
        far = "main:0:1:0:- 0,0 0,6 5,12 x,x - - 0,0"
        self.assertNotIn((far, None), found.table)
        self.check(False, machine, "slow", {**found.table, (far, None): 0}, 5)
        self.check(False, machine, "slow", {**found.table, (far, 0): 20}, 5)

    def test_more_states(self):
        # Those of a machine with an overrun, ahead of it and behind it.
        machine = machine_of(FAST, SLOW)
        found = longest(machine, "slow")
        other = longest(Machine(machine.program, overruns=1), "slow")
        value = {**found.table, **other.table}
        self.assertGreater(len(value), 2 * len(found.table))
        self.check(True, machine, "slow", value, other.ticks)
        self.check(False, machine, "slow", value, found.ticks)
        behind = {pair: number for pair, number in value.items() if pair[0].endswith(" 0,0")}
        self.check(True, machine, "slow", behind, other.ticks)

    def test_pairs_that_cannot_be_there(self):
        # A wait with nothing owed, which ends with the next answer.
        machine = machine_of(source("a", 1, 3, "run 1; answer a"), background("mask 1; run 1; answer a; unmask; run 1"))
        found = longest(machine, "a")
        pairs = [(state.text, ahead) for state in Reach(machine).walk() for ahead in (0, 1, 2)]
        value = {**{pair: 60 for pair in pairs}, **found.table}
        self.assertGreater(len(value), len(found.table))
        for number in (20, 60):
            for one in (value, {**value, (machine.start.text, 2): number}):
                self.check(table_holds(machine, "a", one, found.ticks), machine, "a", one, found.ticks)
        exact = {}
        for state in Reach(machine).walk():
            exact[state.text, None] = 0
        numbers = {pair: 0 for pair in pairs}
        for _ in range(40):
            for text, ahead in pairs:
                ways = [(wait_behind("a", ahead, step.events), step.state.text)
                        for step in machine.steps(parse_state(machine.program, text))]
                numbers[text, ahead] = max(
                    end if end is not None else 1 + numbers[to, left] for (end, left), to in ways)
        exact.update(numbers)
        self.check(True, machine, "a", exact, found.ticks)
        for pair in pairs:
            self.check(False, machine, "a", {**exact, pair: exact[pair] - 1}, found.ticks)

    def test_a_pair_with_a_wait_needs_none_without_one(self):
        # Five are owed, so no run comes there, nor to the state behind it; the wait ends in between.
        machine = machine_of(source("a", 1, 50, "run 1; answer a"))
        found = longest(machine, "a")
        text = "main:0:1:0:-/a:0:1:0:- 0 5 7 x - - 0,0"
        for ahead, number, right in ((0, 1, True), (0, 9, True), (0, 0, False), (1, 9, False), (None, 9, False)):
            self.check(right, machine, "a", {**found.table, (text, ahead): number}, found.ticks)

    def test_any_number_ahead_of_a_pair_of_patterns(self):
        # The next last event ends the wait, whatever number it has.
        machine = machine_of(source("a", 1, 3, "run 2; answer a"))
        question = (("request", "a"), ("leave", "a"))
        found = longest(machine, question)
        value = dict(found.table)
        for (text, ahead), number in found.table.items():
            if ahead is not None:
                value[text, 5] = number
        self.check(True, machine, question, value, found.ticks)

    def test_twice_as_many_pairs(self):
        machine = machine_of(FAST, SLOW)
        found = longest(machine, "fast")
        value = {(State(*state.parts[:7], (1, 0)).text, None): 0 for state in Reach(machine).walk()}
        self.check(False, machine, "fast", {**found.table, **value}, 2)
    def test_no_table_for_waits_without_an_end(self):
        for machine, question in machines()[1]:
            pairs = [(state.text, ahead) for state in Reach(machine).walk() for ahead in (None, *range(7))]
            self.check(False, machine, question, {pair: 10 ** 9 for pair in pairs}, 10 ** 9)

    def test_other_kinds(self):
        machine = machine_of(FAST, SLOW)
        table = longest(machine, "fast").table
        text = machine.start.text
        for thing in THINGS + (list(table.items()), tuple(table), [table], set(table)):
            self.check(False, machine, "fast", thing, 2)
        for key in (None, 0, True, "", text, (), (text,), (text, None, None), (text, 0.0), (text, True), (text, False),
                    (text, -1), (text, "0"), (text, "-"), (None, None), (0, 0), ("text", None), ("", None),
                    ((text,), None), (text + " ", None), (text.replace("5", "05"), None), object(), (text, (0,)),
                    (text, object()), frozenset([text]), (machine.start.parts, None), machine_of(SLOW).start.text):
            self.check(False, machine, "fast", {**table, key: 0}, 2)
        for number in (True, False, None, -1, "0", 0.0, (), [], {}, object()):
            for pair in ((text, None), *[pair for pair in table if pair[1] is not None][:2]):
                self.check(False, machine, "fast", {**table, pair: number}, 2)
        for ticks in (True, False, None, -1, "2", 2.0, (), [], {}, object()):
            self.check(False, machine, "fast", table, ticks)
        self.check(True, machine, "fast", table, 10 ** 29)
        self.check(False, machine, "fast", {}, 2)
        one = machine_of(source("a", 1, 9, "run 1; answer a"))
        self.check(False, one, "a", longest(one, "a").table, True)
        self.check(True, one, "a", longest(one, "a").table, 1)

    def test_any_spoiled_tables(self):
        rng = random.Random(3)
        found_right = 0
        for machine, question in machines()[0]:
            found = longest(machine, question)
            pairs = list(found.table)
            for _ in range(40):
                value = dict(found.table)
                for pair in rng.sample(pairs, min(len(pairs), rng.randint(1, 12))):
                    value[pair] = max(0, value[pair] + rng.choice((-1, 1, 1, 1, 2)))
                ticks = found.ticks + rng.choice((0, 0, 1, 2, 3))
                right = table_holds(machine, question, value, ticks)
                found_right += right
                self.check(right, machine, question, value, ticks)
        self.assertGreater(found_right, 20)

    def test_another_machine_or_question(self):
        machine = machine_of(FAST, SLOW)
        found = longest(machine, "slow")
        self.check(False, Machine(machine.program, overruns=1), "slow", found.table, 5)
        self.check(False, machine, "fast", found.table, 5)
        queued = machine_of(*QUEUED)
        self.check(False, queued, "a", found.table, 5)


if __name__ == "__main__":
    unittest.main()

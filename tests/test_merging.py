"""Tests of merged states: the merging with the fewest pairs, whether a dict is one, and the times that it tells."""

import random
import unittest

import second_merging
from drawn import THINGS, any_machine, any_question
from interruptruns.errors import InvalidEvent, InvalidNumber, InvalidState, TooMany
from interruptruns.formats import parse_program
from interruptruns.longest import longest
from interruptruns.machine import Machine
from interruptruns.merging import is_merging, merge, merged_ticks
from second_merging import all_effects, coarsest, fewest, is_right
from second_waits import all_pairs
from small import background, machine_of, source, task

ALONE = machine_of(source("a", 1, 9, "run 2; answer a"), background("run 3"))
TWO = machine_of(source("a", 1, 3, "run 2; answer a"), source("b", 2, 4, "run 1; answer b"), background("run 2"))
QUESTIONS = ("a", "b", (("request", "a"), ("answer", "b")), (("enter", "b"), ("enter", "b")), (("answer", "a"), ("lost", "b")),
             (("over", "main"), ("answer", "a")))
NO_QUESTIONS = (None, 0, True, "", "x", "main", (), ("a",), ["a"], {}, object(), ("request", "a"), (("request", "a"),),
                (("request", "x"), ("answer", "a")), [("request", "a"), ("answer", "a")])


def number_of(merging):
    return len(set(merging.values()))


class MergeTests(unittest.TestCase):
    def check(self, machine, question):
        found = merge(machine, question, 20000)
        effects = all_effects(machine, question)
        self.assertEqual(set(found), set(all_pairs(machine, question)))
        self.assertEqual(found, coarsest(effects))
        self.assertTrue(is_right(effects, found))
        self.assertIs(is_merging(machine, question, found), True)
        self.assertEqual(merged_ticks(machine, question, found), longest(machine, question, 20000).ticks)
        return found, effects

    def test_the_example(self):
        machine = Machine(parse_program("source a level 1 gap 9 keep 1 enter 0 leave 0\nrun 2\nanswer a\nend\nbackground\nrun 3\nend"))
        merging = merge(machine, "a")
        self.assertEqual([len(merging) > len(set(merging.values())), is_merging(machine, "a", merging), merged_ticks(machine, "a", merging)],
                         [True, True, 2])

    def test_by_hand(self):
        # Where the background is means nothing: only the age counts, and the handler.
        found = self.check(ALONE, "a")[0]
        # Age 0 with a handler, with a wait and without one, and 1 to 8: 9 is like 8, since a request may follow both.
        self.assertEqual({text.split(" ")[3] for text, ahead in found.values() if ahead is None and "/" in text}, {"0"})
        self.assertEqual(len([1 for text, ahead in set(found.values()) if ahead is not None]), 1)
        self.assertEqual(number_of(found), 10)
        for pair, to in found.items():
            self.assertEqual(pair[0].split(" ")[3].replace("9", "8"), to[0].split(" ")[3])
            self.assertEqual(to[0].split(" ")[0].split("/")[0], "main:0:1:0:-")

    def test_the_least_of_those_that_are_alike(self):
        # As texts 10 is ahead of 2 and of 12, and 11 ahead of 12.
        machine = machine_of(source("a", 1, 12, "run 2; answer a"), background("run 12"))
        found = self.check(machine, "a")[0]
        for pair, to in found.items():
            alike = [other for other in found if found[other] == to]
            self.assertEqual(to, min(alike, key=second_merging.order))
        self.assertEqual(found[machine.start.text, None], ("main:0:10:0:- 0 0 11 x - - 0,0", None))
        self.assertEqual({to[0].split(" ")[0] for to in found.values()}, {"main:0:10:0:-", "main:0:10:0:-/a:0:1:0:-"})

    def test_fewest_of_all(self):
        told = set()
        for parts, faults in (
            ([source("a", 1, 1, "run 1; answer a")], {}), ([source("a", 1, 2, "run 1; answer a")], {}),
            ([source("a", 1, 2, "run 1; answer a"), background("run 2")], {}), ([source("a", 1, 1, "run 1; answer a"), background("run 3")], {}),
            ([source("a", 1, 2, "run 2; answer a")], {}), ([source("a", 1, 1, "answer a; run 1")], {"early": 1}),
            ([source("a", 1, 1, "run 1; answer a")], {"overruns": 1}), ([source("a", 1, 1, "run 1; answer a"), background("mask 1; run 2; unmask; run 1")], {}),
            ([source("a", 1, 1, "run 1; answer a"), background("either; run 1; or; run 2; end")], {}),
        ):
            machine = machine_of(*parts, **faults)
            for question in ("a", (("request", "a"), ("answer", "a")), (("enter", "a"), ("enter", "a")), (("over", "main"), ("answer", "a"))):
                effects = all_effects(machine, question)
                if len(effects) <= 9:
                    found = self.check(machine, question)[0]
                    self.assertEqual(number_of(found), fewest(effects))
                    told.add((len(found), number_of(found)))
        self.assertGreater(len([1 for many, few in told if few < many]), 2)
        self.assertGreater(len(told), 5)

    def test_questions(self):
        for question in QUESTIONS:
            found = self.check(TWO, question)[0]
            self.assertLess(number_of(found), len(found))

    def test_waits_of_no_ticks(self):
        # They begin and end in one tick, so no pair has a wait.
        machine = machine_of(source("a", 1, 2, "run 1; answer a"))
        found, effects = self.check(machine, (("answer", "a"), ("leave", "a")))
        self.assertFalse([pair for pair in found if pair[1] is not None])
        self.assertIn(("time", 0), [part for rows in effects.values() for row in rows for part in row])

    def test_waits_without_an_end(self):
        for machine, question in ((machine_of(source("a", 1, 3, "run 1")), "a"), (TWO, (("answer", "a"), ("lost", "b"))),
                                  (machine_of(source("a", 1, 2, "run 2; answer a"), source("b", 2, 2, "run 2; answer b")), "a")):
            found = self.check(machine, question)[0]
            self.assertIsNone(merged_ticks(machine, question, found))

    def test_faults(self):
        for faults in ({"overruns": 1}, {"early": 1}, {"overruns": 1, "early": 1}):
            machine = machine_of(source("a", 1, 3, "run 1; answer a"), source("b", 2, 4, "run 1; answer b"), **faults)
            for question in ("a", (("early", "a"), ("answer", "b")), (("over", "b"), ("answer", "a"))):
                self.check(machine, question)

    def test_pairs_of_other_numbers_ahead(self):
        machine = machine_of(source("a", 1, 1, "run 2; answer a", keep=3))
        found = self.check(machine, "a")[0]
        self.assertGreater(len({ahead for text, ahead in found.values()}), 3)

    def test_the_order_of_questions_and_limits(self):
        for question in NO_QUESTIONS:
            for limit in (5000, 0, None, 1):
                with self.assertRaises(InvalidEvent) as caught:
                    merge(TWO, question, limit)
                self.assertIs(caught.exception.value, question)
        for limit in (0, -1, 100001, True, None, "5000", [], object()):
            with self.assertRaises(InvalidNumber) as caught:
                merge(TWO, "a", limit)
            self.assertIs(caught.exception.value, limit)
        for question in QUESTIONS:
            many = len(all_pairs(TWO, question))
            self.assertEqual(merge(machine=TWO, question=question, limit=many), merge(TWO, question))
            with self.assertRaises(TooMany) as caught:
                merge(TWO, question, many - 1)
            self.assertEqual(caught.exception.limit, many - 1)

    def test_the_default_limit(self):
        machine = machine_of(source("a", 1, 50, "run 1; answer a"), source("b", 1, 50, "run 1; answer b"), background("run 3"))
        with self.assertRaises(TooMany) as caught:
            merge(machine, "a")
        self.assertEqual(caught.exception.limit, 5000)

    def test_the_dict_is_new(self):
        kept = dict(merge(TWO, "a"))
        merge(TWO, "a").clear()
        self.assertEqual(merge(TWO, "a"), kept)

    def test_any_small_machines(self):
        rng = random.Random(17)
        told = {}
        for _ in range(120):
            machine, question = any_machine(rng, 150), any_question(rng)
            found = self.check(machine, question)[0]
            kind = "less" if number_of(found) < len(found) else "same"
            told[kind] = told.get(kind, 0) + 1
        self.assertGreater(told["less"], 30)


class IsMergingTests(unittest.TestCase):
    def setUp(self):
        self.pairs = all_effects(TWO, "a")
        self.found = merge(TWO, "a")
        self.same = {pair: pair for pair in self.found}

    def check(self, right, value, machine=TWO, question="a"):
        self.assertIs(is_merging(machine, question, value), right)
        if not right:
            with self.assertRaises(InvalidState) as caught:
                merged_ticks(machine, question, value)
            self.assertIs(caught.exception.value, value)

    def groups(self):
        groups = {}
        for pair, to in self.found.items():
            groups.setdefault(to, []).append(pair)
        return groups

    def test_each_pair_led_to_itself(self):
        for question in QUESTIONS:
            pairs = all_effects(TWO, question)
            self.check(True, {pair: pair for pair in pairs}, question=question)
        self.check(True, dict(reversed(list(self.same.items()))))

    def test_only_some_pairs_merged(self):
        for to, group in self.groups().items():
            led = dict(self.same)
            for pair in group:
                led[pair] = group[-1]
            self.check(is_right(self.pairs, led), led)
            for pair in group:
                led[pair] = to
            self.check(is_right(self.pairs, led), led)

    def test_any_of_those_that_are_alike(self):
        led = {}
        for group in self.groups().values():
            for pair in group:
                led[pair] = max(group, key=second_merging.order)
        self.assertNotEqual(led, self.found)
        self.check(True, led)

    def test_without_the_first_state(self):
        first = (TWO.start.text, None)
        led = dict(self.same)
        del led[first]
        self.check(False, led)
        self.check(False, {})
        # There is a machine whose first state never comes again.
        machine = machine_of("counter c 1", source("a", 1, 2, "run 1; answer a"), background("run 1; add c"))
        led = {pair: pair for pair in all_effects(machine, "a")}
        self.check(True, led, machine)
        del led[machine.start.text, None]
        self.assertNotIn((machine.start.text, None), [to for rows in all_effects(machine, "a").values() for row in rows for to in second_merging.pairs_in(row)])
        self.check(False, led, machine)

    def test_a_pair_of_an_effect_left_out(self):
        for pair in self.same:
            led = dict(self.same)
            del led[pair]
            self.check(False, led)

    def test_led_to_one_that_is_not_led_to_itself(self):
        for to, group in self.groups().items():
            others = [pair for pair in group if pair != to]
            if len(others) > 1:
                self.check(True, {**self.found, **{pair: others[0] for pair in group}})
                self.check(False, {**self.found, others[0]: others[1]})
                self.check(False, {**self.found, to: others[0]})
                self.check(False, {**self.found, to: others[0], others[0]: others[1], others[1]: others[1]})
        self.assertGreater(max(len(group) for group in self.groups().values()), 2)

    def test_led_to_one_that_is_not_there(self):
        group = max(self.groups().values(), key=len)
        self.check(False, {**self.same, group[0]: ("main:0:2:0:- 0,0 0,0 0,0 x,x - - 5,5", None)})
        self.check(False, {**self.same, group[0]: ("none", None)})

    def test_waits_and_no_waits(self):
        # Without any step that tells it, such pairs could be alike.
        none = [pair for pair in self.same if pair[1] is None]
        waits = [pair for pair in self.same if pair[1] is not None]
        for pair in none[:5]:
            for other in waits:
                self.check(False, {**self.same, pair: other})
                self.check(False, {**self.same, other: pair})
        machine = machine_of(source("a", 1, 3, "run 1"), source("b", 2, 3, "run 1; answer b"))
        for question in ("a", (("request", "a"), ("lost", "b"))):
            led = merge(machine, question)
            for pair, to in led.items():
                if pair[1] is not None and (to[0], None) in led:
                    self.check(False, {**led, pair: (to[0], None)}, machine, question)

    def test_waits_without_an_end_that_never_begin_again(self):
        # The task begins once. Behind that the steps with the wait and those without it have the same effects.
        machine = machine_of("counter c 1", source("a", 1, 2, "run 1; answer a"), task("job", "run 1"), background("when c; or; add c; post job; end; run 1"))
        question = (("begin", "job"), ("full", "job"))
        found = merge(machine, question)
        waits = [pair for pair in found if pair[1] is not None]
        self.assertTrue(waits)
        for pair in waits:
            self.assertIsNotNone(found[pair][1])
            self.assertIn((pair[0], None), found)
        self.check(True, found, machine, question)
        without = {pair: (found[pair][0], None) for pair in waits}
        self.check(False, {**found, **{pair: found[to] for pair, to in without.items()}}, machine, question)
        with_waits = {(text, None): found[text, ahead] for text, ahead in waits}
        self.check(False, {**found, **with_waits}, machine, question)
        self.assertIsNone(merged_ticks(machine, question, found))

    def test_pairs_that_are_not_alike(self):
        rng = random.Random(4)
        places = sorted(self.same, key=second_merging.order)
        seen = set()
        for _ in range(400):
            first, second = rng.sample(places, 2)
            led = {**self.same, first: second}
            right = is_right(self.pairs, led)
            self.check(right, led)
            if self.found[first] != self.found[second]:
                self.assertFalse(right)
            seen.add((right, self.found[first] == self.found[second]))
        self.assertIn((True, True), seen)
        self.assertIn((False, False), seen)

    def test_pairs_that_can_not_be_there(self):
        # A state with a further request that is owed, and all that are behind it, are led to themselves.
        other = machine_of(source("a", 1, 2, "run 1; answer a"))
        led = dict(merge(other, "a"))
        waiting = [("main:0:1:0:- 0 3 2 x - - 0,0", None), (other.start.text, 5)]
        while waiting:
            pair = waiting.pop()
            if pair not in led:
                led[pair] = pair
                for row in second_merging.effects_of(other, "a", pair):
                    waiting.extend(second_merging.pairs_in(row))
        self.assertGreater(len(led), len(merge(other, "a")))
        self.check(True, led, other)
        self.assertEqual(merged_ticks(other, "a", led), longest(other, "a").ticks)
        # Two of them can be merged as well, if they are alike.
        more = coarsest({pair: second_merging.effects_of(other, "a", pair) for pair in led})
        self.assertLess(number_of(more), len(more))
        self.check(True, more, other)
        self.assertEqual(merged_ticks(other, "a", more), 1)

    def test_other_keys_and_values(self):
        group = max(self.groups().values(), key=len)
        text, ahead = group[0]
        for thing in (*THINGS, (text,), (text, None, None), [text, None], (text, True), (text, False), (text, -1), (text, "0"), (text, 1.0),
                      (text + " ", None), (" " + text, None), ("", None), (None, None), (text.replace("0", "00"), None), (text, (1,)),
                      (group[0], None), (text.split(" "), None)):
            self.check(False, {**self.same, group[1]: thing})
            self.check(False, {**self.same, group[0]: thing})
            try:
                self.check(False, {**self.same, thing: group[0]})
                self.check(False, {**self.same, thing: thing})
            except TypeError as error:
                self.assertIn("unhashable", str(error))

    def test_true_for_one(self):
        waits = [pair for pair in self.same if pair[1] is not None]
        text = waits[0][0]
        self.check(False, {**self.same, waits[0]: (text, False)})
        led = dict(self.same)
        del led[waits[0]]
        led[text, False] = waits[0]
        self.check(False, led)

    def test_things_that_are_no_dicts(self):
        for thing in (*THINGS, list(self.found.items()), tuple(self.found), set(self.found), TWO):
            self.check(False, thing)

    def test_another_machine_or_question(self):
        for machine in (machine_of(source("a", 1, 3, "run 1; answer a"), source("b", 2, 4, "run 1; answer b"), background("run 2")),
                        machine_of(source("a", 1, 3, "run 2; answer a"), source("b", 2, 4, "run 1; answer b")),
                        Machine(TWO.program, early=1)):
            self.check(False, self.found, machine)
        self.check(False, self.found, question="b")

    def test_questions_come_first(self):
        for question in NO_QUESTIONS:
            for value in (self.found, None, {}, {1: 1}):
                for call in (is_merging, merged_ticks):
                    with self.assertRaises(InvalidEvent) as caught:
                        call(TWO, question, value)
                    self.assertIs(caught.exception.value, question)

    def test_by_names(self):
        self.assertIs(is_merging(machine=TWO, question="a", value=self.found), True)
        self.assertEqual(merged_ticks(machine=TWO, question="a", value=self.found), longest(TWO, "a").ticks)


class MergedTicksTests(unittest.TestCase):
    def test_numbers(self):
        for machine, question, ticks in ((TWO, "a", longest(TWO, "a").ticks), (ALONE, "a", 2), (ALONE, (("answer", "a"), ("leave", "a")), 0),
                                         (ALONE, (("lost", "a"), ("answer", "a")), 0), (machine_of(source("a", 1, 9, "run 1")), "a", None)):
            pairs = all_effects(machine, question)
            for value in (merge(machine, question), {pair: pair for pair in pairs}):
                found = merged_ticks(machine, question, value)
                self.assertEqual(found, ticks)
                self.assertNotIsInstance(found, bool)

    def test_pairs_that_are_not_behind_the_first_state_count_nothing(self):
        # With more owed requests a wait would need longer; no run has them.
        machine = machine_of(source("a", 1, 2, "run 1; answer a"))
        led = merge(machine, "a")
        waiting = [("main:0:1:0:- 1 5 0 x - - 0,0", None), ("main:0:1:0:- 0 0 2 x - - 0,0", 3)]
        while waiting:
            pair = waiting.pop()
            if pair not in led:
                led[pair] = pair
                for row in second_merging.effects_of(machine, "a", pair):
                    waiting.extend(second_merging.pairs_in(row))
        self.assertIs(is_merging(machine, "a", led), True)
        self.assertEqual(merged_ticks(machine, "a", led), 1)

    def test_any_small_machines(self):
        rng = random.Random(18)
        kinds = set()
        for _ in range(80):
            machine, question = any_machine(rng, 100), any_question(rng)
            effects = all_effects(machine, question)
            ticks = longest(machine, question).ticks
            led = merge(machine, question)
            self.assertEqual(merged_ticks(machine, question, led), ticks)
            self.assertEqual(merged_ticks(machine, question, {pair: pair for pair in led}), ticks)
            # Put together by hand: of each class another one, and some classes not merged.
            groups = {}
            for pair, to in led.items():
                groups.setdefault(to, []).append(pair)
            for group in groups.values():
                chosen = rng.choice(group)
                for pair in group:
                    led[pair] = chosen
            self.assertEqual(merged_ticks(machine, question, led), ticks)
            kinds.add(ticks if ticks is None else min(ticks, 1))
            first, second = rng.choice(list(led)), rng.choice(list(led))
            wrong = {**led, first: second}
            self.assertIs(is_merging(machine, question, wrong), is_right(effects, wrong))
        self.assertEqual(kinds, {0, 1, None})


if __name__ == "__main__":
    unittest.main()

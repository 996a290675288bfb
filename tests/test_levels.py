"""Tests of levels for limits, and of what shows that there are none."""

import itertools
import random
import unittest

from interruptruns.errors import InvalidLimits, InvalidProgram, TooMany
from interruptruns.levels import find_levels, is_stuck, stuck, with_levels
from interruptruns.longest import longest
from interruptruns.machine import Machine
from interruptruns.programs import Program, Source, most_ticks
from interruptruns.recurrence import blocked, recurrence
from small import background, program_of, source, task


def handler(name, level, gap, ticks, **more):
    return Source(name, level, gap, (("run", ticks), ("answer", name)), **more)


IDLE = (("run", 1),)
MASKED = (("mask", 9), ("run", 2), ("unmask",), ("run", 1))
TWO = Program([handler("a", 1, 6, 2), handler("b", 2, 9, 3)], IDLE)
# The lowest of all has 13, none, or 13; above c the times are 7 and 7, above b 8 and 8; the highest has 6, 4, or 5.
THREE = Program([handler("c", 9, 20, 4), handler("a", 5, 10, 2), handler("b", 7, 15, 3)], MASKED)
CALLS = (with_levels, find_levels, stuck, lambda program, limits: is_stuck(program, limits, ({}, {})))
THINGS = (None, 0, 1, True, "", "a", (), [], ["a", "b"], ("a", "b"), [("a", 1), ("b", 2)], object(), b"a", Program)


def all_orders(program):
    """All levels from 1 on."""
    for numbers in itertools.permutations(range(1, len(program.names) + 1)):
        yield dict(zip(program.names, numbers))


def keeps_limits(program, levels, limits):
    """Whether the recurrence of each source is within its limit, with these levels."""
    levelled = with_levels(program, levels)
    times = {name: recurrence(levelled, name) for name in program.names}
    return all(times[name] is not None and times[name] <= limits[name] for name in program.names)


def time_below(program, name, others):
    """The solution for a source below others, None if there is none or W is greater than the gap."""
    own, higher = program.source_of(name), [program.source_of(other) for other in others]
    held = blocked(program, name)
    if held is None:
        return None
    ticks = held + own.enter + most_ticks(own.body)
    return least(ticks, higher, own.gap) if least(ticks + own.leave, higher, own.gap) else None


def least(ticks, higher, most):
    """The least number that is right, tried one by one."""
    for time in range(1, most + 1):
        needed = ticks
        for one in higher:
            needed += (one.enter + most_ticks(one.body) + one.leave) * -(-time // one.gap)
        if time == needed:
            return time
    return None


class FindTests(unittest.TestCase):
    def check(self, program, limits, levels):
        found = find_levels(program, limits)
        self.assertEqual(found, levels)
        turned = {name: limits[name] for name in reversed(list(limits))}
        self.assertEqual(find_levels(program, turned), levels)
        self.assertEqual(levels is not None, any(keeps_limits(program, order, limits) for order in all_orders(program)))
        if levels is None:
            return
        self.assertIsNone(stuck(program, limits))
        self.assertTrue(keeps_limits(program, found, limits))
        machine = Machine(with_levels(program, found))
        for name in program.names:
            self.assertLessEqual(longest(machine, name, 100000).ticks, limits[name])

    def test_the_example(self):
        found = [find_levels(TWO, limits) for limits in [{"a": 5, "b": 3}, {"a": 2, "b": 5}, {"a": 2, "b": 3}]]
        self.assertEqual(found, [{"a": 1, "b": 2}, {"a": 2, "b": 1}, None])
        self.assertEqual(stuck(TWO, {"a": 2, "b": 3}), ({}, {"a": 5, "b": 5}))

    def test_two_sources(self):
        self.check(TWO, {"a": 5, "b": 3}, {"a": 1, "b": 2})
        self.check(TWO, {"a": 2, "b": 5}, {"b": 1, "a": 2})
        self.check(TWO, {"a": 2, "b": 3}, None)
        self.check(TWO, {"a": 1, "b": 9}, None)
        self.check(TWO, {"a": 6, "b": 2}, None)

    def test_the_first_of_several_in_the_order_of_the_program(self):
        self.check(TWO, {"a": 6, "b": 9}, {"a": 1, "b": 2})
        self.check(Program([TWO.sources[1], TWO.sources[0]], IDLE), {"a": 6, "b": 9}, {"b": 1, "a": 2})

    def test_three_sources(self):
        self.check(THREE, {"c": 20, "a": 10, "b": 15}, {"c": 1, "a": 2, "b": 3})
        self.check(THREE, {"c": 13, "a": 7, "b": 5}, {"c": 1, "a": 2, "b": 3})
        self.check(THREE, {"c": 13, "a": 4, "b": 7}, {"c": 1, "b": 2, "a": 3})
        self.check(THREE, {"c": 8, "a": 4, "b": 13}, {"b": 1, "c": 2, "a": 3})
        self.check(THREE, {"c": 6, "a": 8, "b": 13}, {"b": 1, "a": 2, "c": 3})
        self.check(THREE, {"c": 12, "a": 10, "b": 12}, None)
        self.check(THREE, {"c": 20, "a": 6, "b": 6}, None)
        self.check(THREE, {"c": 20, "a": 7, "b": 4}, None)

    def test_four_sources(self):
        # From below: 1 + 2 + 3 + 4 = 10 at first, each needs less above.
        program = Program([handler("a", 1, 40, 1), handler("b", 2, 40, 2), handler("c", 3, 40, 3), handler("d", 4, 40, 4)], IDLE)
        for order in itertools.permutations("abcd"):
            ticks, limits = dict(zip("abcd", (1, 2, 3, 4))), {}
            for at, name in enumerate(order):
                limits[name] = sum(ticks[other] for other in order[at:])
            self.assertEqual(find_levels(program, limits), {name: at + 1 for at, name in enumerate(order)})
            limits[order[2]] -= 1
            self.assertIsNone(find_levels(program, limits))
            self.assertEqual(stuck(program, limits)[0], {order[0]: 1, order[1]: 2})

    def test_one_source(self):
        program = Program([handler("a", 9, 5, 3, leave=1, enter=1)], IDLE)
        for limit in range(1, 6):
            self.assertEqual(find_levels(program, {"a": limit}), {"a": 1} if limit >= 4 else None)

    def test_the_gap_is_too_small(self):
        # Its answer is within the limit, but it is left too late.
        for gap, levels in ((4, None), (5, {"a": 1})):
            self.assertEqual(find_levels(Program([handler("a", 1, gap, 3, leave=2)], IDLE), {"a": 3}), levels)

    def test_the_present_levels_mean_nothing(self):
        for levels in all_orders(THREE):
            program = with_levels(THREE, levels)
            self.assertEqual(find_levels(program, {"c": 8, "a": 4, "b": 13}), {"b": 1, "c": 2, "a": 3})

    def test_the_dict_is_new(self):
        limits = {"a": 6, "b": 9}
        find_levels(TWO, limits).clear()
        self.assertEqual(find_levels(program=TWO, limits=limits), {"a": 1, "b": 2})
        self.assertEqual(limits, {"a": 6, "b": 9})


class WithLevelsTests(unittest.TestCase):
    def test_levels(self):
        found = with_levels(program=THREE, levels={"a": 3, "b": 1, "c": 2})
        self.assertEqual([(one.name, one.level) for one in found.sources], [("c", 2), ("a", 3), ("b", 1)])
        self.assertEqual(with_levels(found, {"c": 3, "a": 1, "b": 2}), with_levels(THREE, {"a": 1, "b": 2, "c": 3}))
        self.assertEqual([one.level for one in THREE.sources], [9, 5, 7])

    def test_all_else_is_kept(self):
        first = program_of(source("a", 5, 9, "either; run 1; or; run 2; end; answer a", enter=3, leave=2),
                           source("b", 8, 50, "run 1; answer b"), background("run 1; mask 9; loop 2; run 1; end"))
        second = program_of(source("a", 2, 9, "either; run 1; or; run 2; end; answer a", enter=3, leave=2),
                            source("b", 1, 50, "run 1; answer b"), background("run 1; mask 9; loop 2; run 1; end"))
        self.assertEqual(with_levels(first, {"b": 1, "a": 2}), second)


class StuckTests(unittest.TestCase):
    def check(self, program, limits, found):
        self.assertEqual(stuck(program, limits), found)
        self.assertEqual(stuck(program, dict(reversed(list(limits.items())))), found)
        self.assertEqual(find_levels(program, limits) is None, found is not None)
        if found is not None:
            self.assertIsInstance(found, tuple)
            self.assertIs(is_stuck(program, limits, found), True)
            self.assertFalse(any(keeps_limits(program, order, limits) for order in all_orders(program)))

    def test_two_sources(self):
        self.check(TWO, {"a": 5, "b": 3}, None)
        self.check(TWO, {"a": 2, "b": 3}, ({}, {"a": 5, "b": 5}))
        self.check(TWO, {"a": 4, "b": 4}, ({}, {"a": 5, "b": 5}))
        self.check(TWO, {"a": 1, "b": 9}, ({"b": 1}, {"a": 2}))
        self.check(TWO, {"a": 6, "b": 2}, ({"a": 1}, {"b": 3}))

    def test_three_sources(self):
        self.check(THREE, {"c": 12, "a": 10, "b": 12}, ({}, {"c": 13, "a": None, "b": 13}))
        self.check(THREE, {"c": 20, "a": 6, "b": 6}, ({"c": 1}, {"a": 7, "b": 7}))
        self.check(THREE, {"c": 20, "a": 7, "b": 4}, ({"c": 1, "a": 2}, {"b": 5}))
        self.check(THREE, {"c": 20, "a": 3, "b": 15}, ({"c": 1, "b": 2}, {"a": 4}))

    def test_no_time_since_there_is_no_solution(self):
        # One of them uses all ticks.
        program = Program([handler("a", 1, 1, 1), handler("b", 2, 50, 1)], IDLE)
        self.check(program, {"a": 1, "b": 50}, ({}, {"a": None, "b": None}))
        program = Program([handler("a", 1, 2, 1), handler("b", 2, 4, 2), handler("c", 3, 50, 1)], IDLE)
        # Below both there is none, and the others have more than their gaps.
        self.check(program, {"a": 2, "b": 4, "c": 50}, ({}, {"a": None, "b": None, "c": None}))

    def test_no_time_since_the_background_masks_for_ever(self):
        program = Program(TWO.sources, (("mask", 9), ("run", 1)))
        self.check(program, {"a": 6, "b": 9}, ({}, {"a": None, "b": None}))

    def test_no_time_since_it_is_left_too_late(self):
        # The answer of a comes after 5 ticks, its end after 7.
        program = Program([handler("a", 1, 6, 3, leave=2), handler("b", 2, 50, 2)], IDLE)
        self.check(program, {"a": 6, "b": 11}, ({}, {"a": None, "b": 12}))
        self.check(Program([handler("a", 1, 7, 3, leave=2), program.sources[1]], IDLE), {"a": 5, "b": 2}, None)

    def test_no_time_since_it_is_greater_than_the_gap(self):
        self.check(Program([handler("a", 1, 4, 2), handler("b", 2, 4, 3)], IDLE), {"a": 4, "b": 4}, ({}, {"a": None, "b": None}))

    def test_dicts_are_new(self):
        limits = {"a": 1, "b": 9}
        for part in stuck(TWO, limits):
            part.clear()
        self.assertEqual(stuck(program=TWO, limits=limits), ({"b": 1}, {"a": 2}))


class IsStuckTests(unittest.TestCase):
    LIMITS = {"c": 20, "a": 3, "b": 15}

    def check(self, right, *parts, program=THREE, limits=None):
        self.assertIs(is_stuck(program, limits or self.LIMITS, parts), right)

    def test_what_stuck_returns(self):
        self.check(True, {"c": 1, "b": 2}, {"a": 4})
        self.check(True, {"b": 2, "c": 1}, {"a": 4})
        self.assertIs(is_stuck(program=THREE, limits=self.LIMITS, value=({"c": 1, "b": 2}, {"a": 4})), True)

    def test_other_levels(self):
        # It is no matter which one of both is below: 13 and 8, or 13 and 7.
        self.check(True, {"b": 1, "c": 2}, {"a": 4})
        self.check(False, {"b": 1, "c": 2}, {"a": 4}, limits={"c": 7, "a": 3, "b": 15})
        self.check(False, {"b": 1, "c": 2}, {"a": 4}, limits={"c": 20, "a": 3, "b": 12})

    def test_one_number_more_or_less(self):
        for number in (3, 5, 0, -4, None):
            self.check(False, {"c": 1, "b": 2}, {"a": number})
        limits = {"c": 12, "a": 10, "b": 12}
        self.check(True, {}, {"c": 13, "a": None, "b": 13}, limits=limits)
        self.check(True, {}, {"b": 13, "c": 13, "a": None}, limits=limits)
        for times in ({"c": 12, "a": None, "b": 13}, {"c": 13, "a": None, "b": 14}, {"c": 13, "a": 11, "b": 13},
                      {"c": 13, "a": 10, "b": 13}, {"c": None, "a": None, "b": 13}):
            self.check(False, {}, times, limits=limits)

    def test_a_source_left_out(self):
        self.check(False, {"c": 1}, {"a": 4})
        self.check(False, {"c": 1, "b": 2}, {})
        self.check(False, {"b": 1}, {"a": 8})
        limits = {"c": 12, "a": 10, "b": 12}
        for times in ({"c": 13, "a": None}, {"a": None, "b": 13}, {"c": 13, "b": 13}, {}):
            self.check(False, {}, times, limits=limits)

    def test_a_source_moved_to_the_other_part(self):
        self.check(False, {"c": 1}, {"a": 7, "b": 7})
        self.check(False, {}, {"a": None, "b": 13, "c": 13})
        self.check(False, {"c": 1, "b": 2, "a": 3}, {})
        self.check(False, {"c": 1, "b": 2}, {"a": 4, "b": 7})
        self.check(False, {"c": 1, "b": 2, "a": 3}, {"a": 4})

    def test_none_below_and_all_below(self):
        self.check(True, {}, {"a": 5, "b": 5}, program=TWO, limits={"a": 2, "b": 3})
        self.check(False, {}, {"a": 5, "b": 5}, program=TWO, limits={"a": 2, "b": 5})
        self.check(False, {}, {"a": 5, "b": 5}, program=TWO, limits={"a": 5, "b": 4})
        self.check(False, {"a": 1, "b": 2}, {}, program=TWO, limits={"a": 5, "b": 3})
        self.check(False, {"b": 1, "a": 2}, {}, program=TWO, limits={"a": 1, "b": 5})

    def test_a_limit_below_that_is_not_kept(self):
        # At its place a has 7, above c.
        self.check(True, {"c": 1, "a": 2}, {"b": 5}, limits={"c": 20, "a": 7, "b": 4})
        self.check(False, {"c": 1, "a": 2}, {"b": 5}, limits={"c": 20, "a": 6, "b": 4})
        self.check(False, {"a": 1, "c": 2}, {"b": 5}, limits={"c": 20, "a": 7, "b": 4})
        self.check(False, {"c": 1, "a": 2}, {"b": 5}, limits={"c": 12, "a": 7, "b": 4})

    def test_levels_that_do_not_go_from_one_on(self):
        for lower in ({"c": 2, "b": 3}, {"c": 1, "b": 3}, {"c": 1, "b": 1}, {"c": 0, "b": 1}, {"c": 2, "b": 2},
                      {"c": -1, "b": 1}, {"c": True, "b": 2}, {"c": 1, "b": "2"}, {"c": None, "b": 2}, {"c": 1.0, "b": 2}):
            self.check(False, lower, {"a": 4})

    def test_other_kinds(self):
        right = ({"c": 1, "b": 2}, {"a": 4})
        for value in (None, 0, True, "", "ab", (), [*right], right[:1], (*right, {}), {}, dict.fromkeys("ab"), object(), right[0],
                      (list(right[0].items()), right[1]), (right[0], list(right[1].items())), (None, right[1]), (right[0], None),
                      (["c", "b"], right[1]), (right[0], ("a",)), ({1: 1, 2: 2}, {"a": 4}), ({("c",): 1, "b": 2}, {"a": 4}),
                      ({"c": 1, "b": 2}, {1: 4}), ({"c": 1, "b": 2}, {None: 4}), ({"c": 1, "x": 2}, {"a": 4}), ({"C": 1, "b": 2}, {"a": 4}),
                      ({"c": 1, "b": 2}, {"a": "4"}), ({"c": 1, "b": 2}, {"a": 4.0}), ({"c": 1, "b": 2}, {"a": [4]}),
                      ({"c": 1, "b": 2}, {"main": 4}), (object(), object())):
            self.assertIs(is_stuck(THREE, self.LIMITS, value), False, value)

    def test_true_for_one(self):
        # A time of one tick keeps every limit, so only a level can be one.
        program = Program([handler("a", 1, 5, 2), handler("b", 2, 5, 1)], IDLE)
        limits = {"a": 1, "b": 3}
        self.assertEqual(stuck(program, limits), ({"b": 1}, {"a": 2}))
        for value in (({"b": 1.0}, {"a": 2}), ({"b": True}, {"a": 2}), ({"b": 1}, {"a": True}), ({"b": 1}, {"a": False})):
            self.assertIs(is_stuck(program, limits, value), False)


class WrongArgumentTests(unittest.TestCase):
    def check(self, error, call, program, argument, value):
        with self.assertRaises(error) as caught:
            call(program, argument)
        self.assertIs(caught.exception.value, value)

    def test_programs(self):
        wrong = [*THINGS, program_of(source("a", 1, 9, "run 1"), source("b", 2, 9, "run 1; answer b")),
                 program_of(source("a", 1, 9, "run 1; answer a"), source("b", 1, 9, "run 1; answer b")),
                 program_of(source("a", 1, 9, "run 1; answer a"), source("b", 2, 9, "run 1; answer b", keep=2)),
                 program_of(source("a", 1, 9, "run 1; answer a"), source("b", 2, 9, "run 1; answer b"), task("job", "run 1")),
                 program_of("counter x 1", source("a", 1, 9, "run 1; answer a"), source("b", 2, 9, "run 1; answer b"))]
        for mask in range(1, 9):
            wrong.append(program_of(source("a", 1, 9, "run 1; answer a"), source("b", 2, 9, "run 1; answer b"),
                                    background(f"run 1; mask 9; run 1; either; loop 2; run 1; mask {mask}; end; or; end; unmask")))
        for program in wrong:
            for call in CALLS:
                for argument in ({"a": 1, "b": 2}, {}, None, {"a": 9}):
                    self.check(InvalidProgram, call, program, argument, program)

    def test_programs_whose_masks_are_all_9(self):
        for text in ("run 1", "mask 9; run 1; unmask; run 1", "either; mask 9; run 1; unmask; or; end; run 1"):
            program = program_of(source("a", 1, 9, "run 1; answer a"), source("b", 2, 9, "run 1; answer b"), background(text))
            self.assertEqual(find_levels(program, {"a": 9, "b": 9}), {"a": 1, "b": 2})

    def test_things(self):
        for call in CALLS:
            for argument in THINGS:
                self.check(InvalidLimits, call, TWO, argument, argument)

    def test_names(self):
        for call in CALLS:
            for argument in ({}, {"a": 1}, {"b": 2}, {"a": 1, "b": 2, "c": 1}, {"a": 1, "c": 2}, {"a": 1, "main": 2}, {"a": 1, "B": 2},
                             {"a": 1, 2: 2}, {1: 1, 2: 2}, {"a": 1, None: 2}, {("a",): 1, ("b",): 2}, {"a": 1, ("b",): 2}, {"a": 1, b"b": 2},
                             {"a": 1, "b": 2, None: 3}):
                self.check(InvalidLimits, call, TWO, argument, argument)

    def test_numbers_of_limits(self):
        for call in CALLS[1:]:
            for low in (0, 7, -1, True, False, None, "1", 1.0, [1], 10 ** 29):
                argument = {"a": low, "b": 1}
                self.check(InvalidLimits, call, TWO, argument, argument)
            for high in (0, 10, -9, True, (), {}):
                argument = {"b": high, "a": 1}
                self.check(InvalidLimits, call, TWO, argument, argument)
            for argument in ({"a": 1, "b": 1}, {"a": 6, "b": 9}):
                call(TWO, argument)

    def test_numbers_of_levels(self):
        for argument in ({"a": 0, "b": 1}, {"a": 1, "b": 1}, {"a": 2, "b": 2}, {"a": 2, "b": 3}, {"a": 1, "b": 3}, {"a": True, "b": 2},
                         {"a": 1, "b": "2"}, {"a": None, "b": 1}, {"a": 1.0, "b": 2}, {"a": -1, "b": 1}, {"a": [1], "b": 2}):
            self.check(InvalidLimits, with_levels, TWO, argument, argument)
        for argument in ({"c": 1, "a": 2, "b": 2}, {"c": 1, "a": 2, "b": 4}, {"c": 0, "a": 1, "b": 2}, {"c": 3, "a": 3, "b": 3}):
            self.check(InvalidLimits, with_levels, THREE, argument, argument)

    def test_the_value_comes_last(self):
        for value in THINGS:
            self.check(InvalidProgram, lambda program, limits: is_stuck(program, limits, value), None, {"a": 1, "b": 2}, None)
            limits = {"a": 0, "b": 1}
            self.check(InvalidLimits, lambda program, limits: is_stuck(program, limits, value), TWO, limits, limits)


class AnyProgramTests(unittest.TestCase):
    def test_any_programs(self):
        rng = random.Random(16)
        told = {}
        for _ in range(500):
            program = self.any_program(rng)
            limits = {one.name: rng.randint(max(1, min(one.gap, most_ticks(one.body) + rng.choice((0, 4)))), one.gap)
                      for one in program.sources}
            found = find_levels(program, limits)
            orders = [order for order in all_orders(program) if keeps_limits(program, order, limits)]
            self.assertEqual(found is not None, bool(orders))
            if found is not None:
                self.assertIn(found, orders)
                self.assertEqual(found, self.first_levels(program, limits))
                self.check_times(program, found, limits)
                self.assertIsNone(stuck(program, limits))
            else:
                self.check_stuck(rng, program, limits)
            told[len(program.names), found is None] = told.get((len(program.names), found is None), 0) + 1
        self.assertGreater(min(told.values()), 5)
        self.assertEqual(len(told), 8)

    def any_program(self, rng):
        sources = []
        for at, name in enumerate("abcd"[:rng.randint(1, 4)]):
            sources.append(handler(name, at + 1, rng.randint(3, 50), rng.randint(1, 5), enter=rng.choice((0, 0, 1)), leave=rng.choice((0, 0, 1))))
        rng.shuffle(sources)
        return Program(sources, rng.choice((IDLE, MASKED, (("run", 1), ("either", (("mask", 9), ("run", 3)), ())))))

    def first_levels(self, program, limits):
        lower = []
        while len(lower) < len(program.names):
            left = [name for name in program.names if name not in lower]
            times = {name: time_below(program, name, [other for other in left if other != name]) for name in left}
            lower.append([name for name in left if times[name] and times[name] <= limits[name]][0])
        return {name: at + 1 for at, name in enumerate(lower)}

    def check_times(self, program, levels, limits):
        machine = Machine(with_levels(program, levels))
        for name in program.names:
            try:
                self.assertLessEqual(longest(machine, name, 300).ticks, limits[name])
            except TooMany:
                return

    def check_stuck(self, rng, program, limits):
        lower, times = stuck(program, limits)
        left = [name for name in program.names if name not in lower]
        self.assertEqual(times, {name: time_below(program, name, [other for other in left if other != name]) for name in left})
        self.assertFalse([name for name in left if times[name] and times[name] <= limits[name]])
        self.assertEqual(sorted(lower.values()), list(range(1, len(lower) + 1)))
        self.assertIs(is_stuck(program, limits, (lower, times)), True)
        name = rng.choice(left)
        wrong = dict(times)
        wrong[name] = rng.choice([1, 60, None]) if times[name] is None else times[name] + rng.choice((-1, 1))
        self.assertIs(is_stuck(program, limits, (lower, wrong)), wrong == times)


if __name__ == "__main__":
    unittest.main()

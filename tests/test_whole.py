"""Tests of what holds over the whole program, with drawn programs."""

import random
import unittest

import second_checks
from drawn import all_states, any_body, any_kinds, any_machine, any_question
from interruptruns.certificates import certify, certify_depth, certify_never, check
from interruptruns.changes import changed, grown, kept
from interruptruns.errors import TooMany
from interruptruns.extremes import longest_stretch, loses, most_frames, most_waiting
from interruptruns.formats import format_program, parse_program
from interruptruns.levels import find_levels, is_stuck, stuck, with_levels
from interruptruns.logs import Monitor, fit, log_of, worst_after
from interruptruns.longest import longest, waits
from interruptruns.machine import Machine
from interruptruns.merging import is_merging, merge, merged_ticks
from interruptruns.papers import is_ring, is_table, is_wait
from interruptruns.programs import Program, Source
from interruptruns.reach import Reach, is_closed
from interruptruns.recurrence import is_plain, recurrence
from interruptruns.runs import Run
from interruptruns.states import State, is_state, parse_state
from samples import any_program
from small import background, program_of, source, task

IDLE = (("run", 1),)


def any_plain(rng):
    """Return a plain program with at most three sources, whose masks are 9."""
    sources = []
    names = "abc"[:rng.randint(1, 3)]
    for name, level in zip(names, rng.sample(range(1, 10), len(names))):
        ticks = rng.randint(1, 3)
        body = (("run", ticks), ("answer", name))
        if rng.random() < 0.3:
            body = (("either", (("run", ticks),), (("loop", 2, (("run", 1),)),)), ("run", 1), ("answer", name))
        sources.append(Source(name, level, rng.randint(4, 13), body, enter=rng.choice((0, 0, 1)), leave=rng.choice((0, 0, 1))))
    masked = (("run", 1), ("mask", 9), ("run", rng.randint(1, 3)), ("unmask",), ("run", 1))
    return Program(sources, rng.choice((IDLE, masked, (("either", masked, IDLE),))))


def any_choices(rng, machine, state, ticks):
    """Return the list of the choices of so many ticks from a state on."""
    choices = []
    for _ in range(ticks):
        step = rng.choice(machine.steps(state))
        choices.append(step.choice)
        state = step.state
    return choices


def any_run(rng, machine, ticks):
    return Run(machine, any_choices(rng, machine, machine.start, ticks))


class ReadBackTests(unittest.TestCase):
    def test_texts_of_programs(self):
        for seed in range(300):
            program = any_program(seed)
            text = format_program(program)
            self.assertEqual(parse_program(text), program)
            self.assertEqual(format_program(parse_program(text)), text)

    def test_texts_of_states(self):
        rng = random.Random(31)
        for seed in range(60):
            machine = Machine(any_program(seed), overruns=rng.randint(0, 3), early=rng.randint(0, 3))
            for state in any_run(rng, machine, 30).states:
                self.assertTrue(is_state(machine.program, state))
                read = parse_state(machine.program, state.text)
                self.assertEqual((read, read.text), (state, state.text))
                fields = [(one.frames, one.pending, one.owed, one.ages, one.timers, one.queue, one.counters, one.spare) for one in (state, read)]
                self.assertEqual(fields[0], fields[1])
                self.assertEqual(State(*fields[0]), state)

    def test_certificates(self):
        rng = random.Random(32)
        for _ in range(40):
            machine, question = any_machine(rng, 100), any_question(rng)
            found = longest(machine, question)
            lines = certify(machine, question).split("\n")
            at = second_checks.program_lines(lines)[0]
            program = parse_program("\n".join(lines[:at]))
            overruns, early = [int(word) for word in lines[at].split(" ")[1:]]
            self.assertEqual(Machine(program, overruns=overruns, early=early), machine)
            choices, rest = second_checks.block(lines[at + 3:])
            self.assertEqual([second_checks.choice_of(line) for line in choices], found.choices)
            if found.ticks is None:
                self.assertEqual(lines[at + 2], "endless")
                self.assertEqual([second_checks.choice_of(line) for line in rest[1:]], found.ring)
            else:
                self.assertEqual(lines[at + 2], f"time {found.ticks}")
                rows = [line.rsplit(" ", 2) for line in rest[1:]]
                table = {(text, None if ahead == "-" else int(ahead)): int(number) for text, ahead, number in rows}
                self.assertEqual(table, found.table)


class TogetherTests(unittest.TestCase):
    """The same bound by several ways."""

    def test_any_machines(self):
        rng = random.Random(33)
        told = {"endless": 0, "time": 0}
        for _ in range(80):
            machine, question = any_machine(rng, 120), any_question(rng)
            found = longest(machine, question)
            merging = merge(machine, question)
            self.assertTrue(is_merging(machine, question, merging))
            self.assertEqual(merged_ticks(machine, question, merging), found.ticks)
            self.assertTrue(check(certify(machine, question)))
            if found.ticks is None:
                told["endless"] += 1
                self.assertTrue(is_ring(machine, question, found.choices, found.ring))
                self.assertIsNone(found.table)
                ended = [end - begin for begin, end in waits(Run(machine, found.choices + found.ring * 3), question)]
                for number in (0, 5, max(ended, default=0)):
                    self.assertFalse(is_table(machine, question, {}, number))
            else:
                told["time"] += 1
                self.assertTrue(is_table(machine, question, found.table, found.ticks))
                self.assertEqual(set(found.table), set(merging))
                for pair, to in merging.items():
                    self.assertEqual(found.table[pair], found.table[to])
                if found.choices:
                    self.assertTrue(is_wait(machine, question, found.choices, found.ticks))
                    self.assertFalse(found.ticks > 0 and is_table(machine, question, found.table, found.ticks - 1))
                for _ in range(3):
                    ended = waits(any_run(rng, machine, 25), question)
                    self.assertLessEqual(max([end - begin for begin, end in ended], default=0), found.ticks)
        self.assertGreater(min(told.values()), 10)

    def test_plain_programs(self):
        rng = random.Random(34)
        numbers = 0
        for _ in range(80):
            program = any_plain(rng)
            self.assertTrue(is_plain(program))
            machine = Machine(program)
            for name in program.names:
                ticks = recurrence(program, name)
                if ticks is not None:
                    try:
                        found = longest(machine, name, 2000)
                    except TooMany:
                        continue
                    numbers += 1
                    self.assertEqual(found.ticks, ticks)
                    self.assertTrue(is_table(machine, name, found.table, ticks))
                    self.assertFalse(is_table(machine, name, found.table, ticks - 1))
        self.assertGreater(numbers, 30)

    def test_extremes_and_all_states(self):
        rng = random.Random(35)
        for _ in range(25):
            machine = any_machine(rng, 120)
            steps = all_states(machine)
            reach = Reach(machine)
            self.assertEqual([state.text for state in reach.walk()], sorted(steps))
            self.assertTrue(is_closed(machine, list(reach.walk())))
            every = [step for rows in steps.values() for step in rows]
            depth, choices = most_frames(machine)
            self.assertEqual(depth, max(step.depth for step in every))
            self.assertIn(f"\ndepth {depth}\nchoices {len(choices)}\n", certify_depth(machine))
            number, choices = most_waiting(machine)
            self.assertEqual(number, max(len(state.queue) for state in reach.walk()))
            self.assertEqual(len(Run(machine, choices).last.queue), number)
            for name in "ab":
                lost = loses(machine, name)
                self.assertEqual(lost is None, certify_never(machine, ("lost", name)) is not None)
                if lost is not None:
                    self.assertIn(("lost", name), [event[1:] for event in Run(machine, lost).events])
            for level in range(1, 4):
                self.check_stretch(machine, steps, level)

    def check_stretch(self, machine, steps, level):
        """A stretch is led on for one more tick, again and again."""
        found = longest_stretch(machine, level)
        layer = set(steps)
        for ticks in range(len(steps) + 1):
            behind = {step.state.text for text in layer for step in steps[text] if step.height >= level}
            if not behind:
                self.assertEqual(found, ticks)
                return
            layer = behind
        self.assertIsNone(found)


class LevelTests(unittest.TestCase):
    def test_found_levels_keep_their_limits(self):
        rng = random.Random(36)
        told = {"found": 0, "stuck": 0}
        for _ in range(60):
            program = any_plain(rng)
            limits = {one.name: rng.randint(max(1, one.gap // 2), one.gap) for one in program.sources}
            levels = find_levels(program, limits)
            if levels is None:
                told["stuck"] += 1
                self.assertTrue(is_stuck(program, limits, stuck(program, limits)))
                continue
            told["found"] += 1
            self.assertIsNone(stuck(program, limits))
            levelled = with_levels(program, levels)
            for name in program.names:
                ticks = longest(Machine(levelled), name, 100000).ticks
                self.assertLessEqual(ticks, limits[name])
                self.assertEqual(recurrence(levelled, name), ticks)
            # With just these times as limits they are found as well.
            limits = {name: recurrence(levelled, name) for name in program.names}
            self.assertIsNotNone(find_levels(program, limits))
        self.assertGreater(min(told.values()), 8)


class ChangeTests(unittest.TestCase):
    def test_kept_numbers_are_right(self):
        rng = random.Random(37)
        some = 0
        for _ in range(80):
            first = any_machine(rng, 120, True).program
            name = rng.choice(("a", "b", "main"))
            text = {"a": any_body(rng, "a"), "b": any_body(rng, "b"), "main": "run 1; mask 1; run 1"}[name]
            body = program_of("counter c 1", source("a", 1, 9, text), source("b", 1, 9, "run 1"), task("job", "run 1")).body_of("a")
            second = first.replaced(name, body)
            self.assertEqual(changed(first, second), () if first == second else (name,))
            for question in "ab":
                try:
                    numbers = kept(first, second, question)
                    later = longest(Machine(second), question).table
                    grew = [told for told in grown(first, second) if told[0] == question]
                except TooMany:
                    continue
                before, after = longest(Machine(first), question).ticks, longest(Machine(second), question).ticks
                greater = before is not None and (after is None or after > before)
                self.assertEqual(grew, [(question, before, after)] if greater else [])
                some += bool(numbers) and first != second
                table = longest(Machine(first), question).table
                for pair, number in numbers.items():
                    self.assertEqual(table[pair], number)
                    if later is not None and pair in later:
                        self.assertEqual(later[pair], number)
                for pair in rng.sample(list(numbers), min(len(numbers), 5)):
                    self.assertEqual(self.greatest(second, question, pair), numbers[pair])
        self.assertGreater(some, 15)

    def greatest(self, program, name, pair):
        """The greatest number of ticks until the end of a wait, tick by tick from all pairs at once."""
        machine, layer, ticks, best = Machine(program), {pair}, 0, 0
        while layer:
            behind = set()
            for text, ahead in layer:
                for step in machine.steps(parse_state(program, text)):
                    end, left = second_checks.wait_behind(name, ahead, step.events)
                    if end is None:
                        behind.add((step.state.text, left))
                    else:
                        best = max(best, ticks + end)
            layer = behind
            ticks += 1
            self.assertLess(ticks, 200)
        return best


class LogTests(unittest.TestCase):
    def test_logs_of_runs_fit(self):
        rng = random.Random(38)
        for _ in range(40):
            machine, kinds, question = any_machine(rng, 150), any_kinds(rng), any_question(rng)
            run = any_run(rng, machine, rng.choice((0, 5, 20, 60)))
            log = log_of(run, kinds)
            found = fit(machine, log, len(run), kinds)
            self.assertLessEqual(found, list(run.choices))
            self.assertEqual(log_of(Run(machine, found), kinds), log)
            # What is under way behind a run that fits is at most the worst of all.
            worst = worst_after(machine, log, len(run), kinds, question)
            ticks = longest(machine, question).ticks
            if ticks is not None:
                self.assertTrue(0 <= worst <= ticks)
                later = run.more(any_choices(rng, machine, run.last, 20))
                behind = [end - len(run) for begin, end in waits(later, question) if begin < len(run) < end]
                self.assertLessEqual(max(behind, default=0), worst)
            monitor = Monitor(machine, kinds)
            for at in range(len(run)):
                step = machine.step(run.states[at], run.choices[at])
                self.assertTrue(monitor([event for event in step.events if event[1] in kinds]))
            self.assertGreaterEqual(monitor.possible, 1)


class EqualTests(unittest.TestCase):
    def test_equal_arguments(self):
        """Calls with equal arguments, made anew, return equal results, and lists and dicts are new."""
        rng = random.Random(39)
        for _ in range(15):
            machine, question = any_machine(rng, 100), any_question(rng)
            other = Machine(parse_program(format_program(machine.program)), overruns=machine.overruns, early=machine.early)
            for call in (lambda one: longest(one, question), lambda one: merge(one, question), lambda one: certify(one, question), certify_depth,
                         most_frames, most_waiting, lambda one: loses(one, "a"), lambda one: longest_stretch(one, 1), lambda one: fit(one, [], 3, ()),
                         lambda one: worst_after(one, [], 3, (), question), lambda one: one.steps(one.start), lambda one: one.after(3)):
                self.assertEqual(call(machine), call(other))
                found = call(machine)
                if isinstance(found, (list, dict)):
                    found.clear()
                    self.assertEqual(call(machine), call(other))

    def test_limits_change_nothing(self):
        rng = random.Random(40)
        for _ in range(15):
            machine, question = any_machine(rng, 100), any_question(rng)
            for call in (lambda limit: longest(machine, question, limit), lambda limit: merge(machine, question, limit),
                         lambda limit: most_frames(machine, limit), lambda limit: longest_stretch(machine, 1, limit),
                         lambda limit: certify(machine, question, limit), lambda limit: certify_never(machine, ("lost", "a"), limit),
                         lambda limit: worst_after(machine, [], 2, (), question, limit)):
                expected = call(5000)
                for limit in (1, 50, 100, 400, 100000):
                    try:
                        self.assertEqual(call(limit), expected)
                    except TooMany as error:
                        self.assertEqual(error.limit, limit)


if __name__ == "__main__":
    unittest.main()

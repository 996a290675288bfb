"""Tests of one tick, a sentence after another."""

import unittest

from interruptruns.states import parse_state
from small import NOTHING, background, choice, events, go, last, machine_of, source, task


def behind(machine, text, one=NOTHING):
    """The step from the state of a text; a choice may be only its requests."""
    one = choice(one) if isinstance(one, str) else one
    return machine.step(parse_state(machine.program, text), one)


def told(step):
    return [f"{offset} {kind} {name}" for offset, kind, name in step.events]


class FirstStepTests(unittest.TestCase):
    def test_ages_grow_up_to_the_gaps(self):
        machine = machine_of(source("a", 1, 3, "run 1"), source("b", 2, 5, "run 1"))
        ages = [step.state.ages for step in go(machine, "a b", "", "", "a", "", "b")]
        self.assertEqual(machine.start.ages, (3, 5))
        self.assertEqual(ages, [(0, 0), (1, 1), (2, 2), (0, 3), (1, 4), (2, 0)])
        self.assertEqual(last(machine, "a b", *[""] * 9).ages, (3, 5))

    def test_timers_ask(self):
        machine = machine_of(source("a", 1, 3, "run 1"), source("b", 2, 5, "run 1"))
        step = behind(machine, "main:0:1:0:- 0,0 0,0 3,5 0,1 - - 0,0")
        self.assertEqual(told(step), ["0 timer a", "0 enter a", "1 leave a"])
        self.assertEqual(step.state.timers, (None, 0))
        self.assertEqual((step.state.pending, step.state.owed), ((0, 0), (1, 0)))
        self.assertEqual(step.state.ages, (3, 5))

    def test_timers_ask_in_the_order_of_the_program_ahead_of_requests(self):
        machine = machine_of(source("b", 1, 3, "run 1"), source("a", 2, 5, "run 1"))
        step = behind(machine, "main:0:1:9:- 0,0 0,0 3,5 0,0 - - 0,0", "b a")
        self.assertEqual(
            told(step),
            ["0 timer b", "0 timer a", "0 request b", "0 lost b", "0 request a", "0 lost a"],
        )
        self.assertEqual(step.state.timers, (None, None))
        self.assertEqual(step.state.pending, (1, 1))

    def test_timers_do_not_heed_gaps(self):
        machine = machine_of(source("a", 1, 50, "run 1; answer a; arm a 1"))
        steps = go(machine, "a", "", "", "")
        self.assertEqual([step.state.timers for step in steps], [(1,), (0,), (1,), (0,)])
        self.assertEqual(told(steps[2]), ["0 timer a", "0 enter a", "1 answer a", "1 leave a"])
        self.assertEqual(steps[3].state.ages, (3,))


class RequestTests(unittest.TestCase):
    def test_requests(self):
        machine = machine_of(source("a", 1, 3, "run 1"), source("b", 2, 5, "run 4"))
        step = go(machine, "a b")[0]
        self.assertEqual(told(step), ["0 request a", "0 request b", "0 enter b"])
        self.assertEqual(step.state.text, "main:0:1:0:-/b:0:3:0:- 1,0 1,1 0,0 x,x - - 0,0")

    def test_a_request_at_the_gap_and_not_ahead_of_it(self):
        machine = machine_of(source("a", 1, 3, "run 1"))
        for ticks, possible in ((0, False), (1, False), (2, True), (3, True)):
            state = last(machine, "a", *[""] * ticks)
            found = [step.choice[0] for step in machine.steps(state)]
            self.assertEqual(found, [(), ("a",)] if possible else [()])

    def test_early_requests(self):
        machine = machine_of(source("a", 1, 3, "run 1"), early=1)
        steps = go(machine, "a", "a")
        self.assertEqual(told(steps[1]), ["0 early a", "0 enter a", "1 leave a"])
        self.assertEqual([step.state.spare for step in steps], [(0, 1), (0, 0)])
        self.assertEqual(steps[1].state.ages, (0,))
        self.assertEqual([step.choice[0] for step in machine.steps(steps[1].state)], [()])

    def test_a_request_at_the_gap_is_not_early(self):
        machine = machine_of(source("a", 1, 2, "run 1"), early=1)
        steps = go(machine, "a", "", "a")
        self.assertEqual(told(steps[2])[0], "0 request a")
        self.assertEqual(steps[2].state.spare, (0, 1))

    def test_as_many_early_requests_of_one_tick_as_may_still_come(self):
        parts = [source(name, 1, 9, "run 1") for name in "abc"]
        for early, many in ((0, 1), (1, 4), (2, 7), (3, 8)):
            machine = machine_of(*parts, early=early)
            found = [step.choice[0] for step in machine.steps(last(machine, "a b c"))]
            self.assertEqual(len(found), many)
            self.assertEqual(max(len(names) for names in found), early)
        steps = go(machine, "a b c", "a c")
        self.assertEqual(told(steps[1])[:2], ["0 early a", "0 early c"])
        self.assertEqual([step.state.spare for step in steps], [(0, 3), (0, 1)])

    def test_early_and_other_requests_of_one_tick(self):
        machine = machine_of(source("a", 1, 9, "run 1"), source("b", 1, 1, "run 1"), early=1)
        found = [step.choice[0] for step in machine.steps(last(machine, "a b"))]
        self.assertEqual(found, [(), ("a",), ("a", "b"), ("b",)])


class AskTests(unittest.TestCase):
    def test_lost_when_enough_are_kept(self):
        for keep in (1, 2, 3):
            machine = machine_of(source("a", 1, 1, "run 1", keep=keep), background("mask 9; run 1"))
            steps = go(machine, *["a"] * (keep + 1))
            self.assertEqual([told(step) for step in steps[:-1]], [["0 request a"]] * keep)
            self.assertEqual(told(steps[-1]), ["0 request a", "0 lost a"])
            self.assertEqual(steps[-1].state.pending, (keep,))
            self.assertEqual(steps[-1].state.owed, (keep,))
            self.assertEqual(steps[-1].state.ages, (0,))

    def test_lost_when_six_are_owed(self):
        machine = machine_of(source("a", 1, 1, "run 1", keep=3))
        steps = go(machine, *["a"] * 7)
        self.assertEqual([step.state.owed for step in steps], [(one,) for one in (1, 2, 3, 4, 5, 6, 6)])
        self.assertEqual(told(steps[5]), ["0 request a", "0 enter a", "1 leave a"])
        self.assertEqual(told(steps[6]), ["0 request a", "0 lost a"])

    def test_six_owed_ones_and_fewer_kept_ones(self):
        machine = machine_of(source("a", 1, 1, "run 1", keep=3))
        step = behind(machine, "main:0:1:9:- 1 5 1 x - - 0,0", "a")
        self.assertEqual((told(step), step.state.pending, step.state.owed), (["0 request a"], (2,), (6,)))
        step = behind(machine, "main:0:1:9:- 1 6 1 x - - 0,0", "a")
        self.assertEqual((told(step)[1], step.state.pending, step.state.owed), ("0 lost a", (1,), (6,)))

    def test_each_way_to_be_asked_can_be_lost(self):
        machine = machine_of(source("a", 1, 2, "run 1"), background("mask 9; run 1; raise a"), early=1)
        step = behind(machine, "main:0:1:9:- 1 1 0 0 - - 0,1", "a")
        self.assertEqual(
            told(step),
            ["0 timer a", "0 lost a", "0 early a", "0 lost a", "1 raise a", "1 lost a"],
        )


class EnterTests(unittest.TestCase):
    def test_the_greatest_level_enters(self):
        machine = machine_of(*[source(name, level, 9, "run 3") for name, level in
                               (("a", 2), ("b", 7), ("c", 5))])
        self.assertEqual(told(go(machine, "a b c")[0])[-1], "0 enter b")
        self.assertEqual(told(go(machine, "a c")[0])[-1], "0 enter c")

    def test_the_first_one_of_several(self):
        machine = machine_of(source("b", 2, 9, "run 3"), source("a", 2, 9, "run 3"), source("c", 1, 9, "run 1"))
        self.assertEqual(told(go(machine, "b a c")[0])[-1], "0 enter b")
        self.assertEqual(last(machine, "b a c").pending, (0, 1, 1))

    def test_only_above_the_running_level(self):
        machine = machine_of(*[source(name, level, 9, "run 3") for name, level in
                               (("a", 2), ("b", 2), ("c", 3))])
        steps = go(machine, "a", "b", "c")
        self.assertEqual([told(step)[1:] for step in steps], [["0 enter a"], [], ["0 enter c"]])
        self.assertEqual([step.depth for step in steps], [2, 2, 3])
        self.assertEqual([step.height for step in steps], [2, 2, 3])

    def test_masks_hold_back_levels_up_to_theirs(self):
        for level in range(1, 10):
            machine = machine_of(source("a", 5, 9, "run 3"), background(f"mask {level}; run 1"))
            step = go(machine, "a")[0]
            self.assertEqual(told(step)[1:], ["0 enter a"] if level < 5 else [])
            self.assertEqual(step.height, max(5, level) if level < 5 else level)

    def test_one_of_several_kept_requests(self):
        machine = machine_of(source("a", 1, 9, "run 1", keep=3))
        step = behind(machine, "main:0:1:0:- 3 3 9 x - - 0,0")
        self.assertEqual((step.state.pending, step.state.owed), ((2,), (3,)))

    def test_entering_without_ticks(self):
        machine = machine_of(source("a", 1, 9, "answer a; run 2; answer a"))
        steps = go(machine, "a", "")
        self.assertEqual(told(steps[0]), ["0 request a", "0 enter a", "0 answer a"])
        self.assertEqual(steps[0].state.frames[1], ("a", 0, 1, 0, ()))
        self.assertEqual(told(steps[1]), ["1 answer a", "1 leave a"])

    def test_entering_with_ticks(self):
        machine = machine_of(source("a", 1, 9, "answer a; run 1; answer a", enter=2))
        steps = go(machine, "a", "", "")
        self.assertEqual([told(step) for step in steps],
                         [["0 request a", "0 enter a"], ["1 answer a"], ["1 answer a", "1 leave a"]])
        self.assertEqual([step.state.frames[1:] for step in steps],
                         [(("a", "in", 1, 0, ()),), (("a", 0, 1, 0, ()),), ()])

    def test_one_source_in_each_tick(self):
        machine = machine_of(source("a", 1, 9, "run 3"), source("b", 2, 9, "run 3"))
        step = behind(machine, "main:0:1:0:- 1,1 1,1 9,9 x,x - - 0,0")
        self.assertEqual(told(step), ["0 enter b"])

    def test_a_body_that_begins_and_raises(self):
        machine = machine_of(source("a", 1, 9, "raise b; run 1"), source("b", 2, 9, "run 1"))
        steps = go(machine, "a", "")
        self.assertEqual(told(steps[0]), ["0 request a", "0 enter a", "0 raise b", "1 leave a"])
        self.assertEqual(told(steps[1]), ["0 enter b", "1 leave b"])

    def test_a_body_without_ticks(self):
        machine = machine_of(source("a", 1, 9, "answer a", leave=2), background("run 2"))
        steps = go(machine, "a", "", "")
        self.assertEqual([told(step) for step in steps],
                         [["0 request a", "0 enter a", "0 answer a"], ["1 leave a"], []])
        self.assertEqual(steps[0].state.frames[1:], (("a", "out", 1, 0, ()),))
        self.assertEqual([step.depth for step in steps], [2, 2, 1])

    def test_the_mask_ends_with_the_handler(self):
        machine = machine_of(source("a", 1, 9, "mask 5; run 1", leave=2), source("b", 4, 9, "run 1"))
        steps = go(machine, "a", "b")
        self.assertEqual([step.height for step in steps], [5, 4])
        self.assertEqual(steps[0].state.frames[-1], ("a", "out", 2, 0, ()))
        self.assertEqual(told(steps[1]), ["0 request b", "0 enter b", "1 leave b"])


class TaskTests(unittest.TestCase):
    PARTS = (
        source("a", 1, 9, "run 2; post job"), task("job", "run 1; answer a"), task("work", "run 2"),
    )

    def test_tasks_begin_and_end(self):
        machine = machine_of(*self.PARTS)
        steps = go(machine, "a", "", "", "")
        self.assertEqual([told(step) for step in steps],
                         [["0 request a", "0 enter a"], ["1 post job", "1 leave a"],
                          ["0 begin job", "1 answer a", "1 end job"], []])
        self.assertEqual([step.depth for step in steps], [2, 2, 2, 1])
        self.assertEqual([step.height for step in steps], [1, 1, 0, 0])
        self.assertEqual([step.state.queue for step in steps], [(), ("job",), (), ()])

    def test_the_first_one_of_the_queue(self):
        machine = machine_of(*self.PARTS)
        step = behind(machine, "main:0:1:0:- 0 0 9 x work,job,work - 0,0")
        self.assertEqual((told(step), step.state.queue), (["0 begin work"], ("job", "work")))
        self.assertEqual(step.state.frames, (("main", 0, 1, 0, ()), ("work", 0, 1, 0, ())))

    def test_no_task_begins_above_a_frame(self):
        machine = machine_of(*self.PARTS)
        for frames in ("main:0:1:0:-/work:0:2:0:-", "main:0:1:0:-/a:0:2:0:-"):
            step = behind(machine, f"{frames} 0 0 9 x job - 0,0")
            self.assertEqual((told(step), step.state.queue), ([], ("job",)))

    def test_no_task_begins_under_a_mask(self):
        machine = machine_of(*self.PARTS, background("mask 1; run 1; unmask; run 1"))
        step = behind(machine, "main:0:1:1:- 0 0 9 x job - 0,0")
        self.assertEqual((told(step), step.state.queue), ([], ("job",)))
        step = behind(machine, "main:1:1:0:- 0 0 9 x job - 0,0")
        self.assertEqual(told(step)[0], "0 begin job")

    def test_a_source_comes_ahead_of_a_task(self):
        machine = machine_of(*self.PARTS)
        step = behind(machine, "main:0:1:0:- 0 0 9 x job - 0,0", "a")
        self.assertEqual((told(step), step.state.queue), (["0 request a", "0 enter a"], ("job",)))

    def test_sources_interrupt_tasks(self):
        machine = machine_of(*self.PARTS)
        step = behind(machine, "main:0:1:0:-/work:0:2:0:- 0 0 9 x - - 0,0", "a")
        self.assertEqual((told(step)[1:], step.depth, step.height), (["0 enter a"], 3, 1))
        step = behind(machine, "main:0:1:0:-/work:0:2:1:- 0 0 9 x - - 0,0", "a")
        self.assertEqual((told(step)[1:], step.depth, step.height), ([], 2, 1))

    def test_a_task_that_begins_has_effects_at_once(self):
        machine = machine_of(source("a", 1, 9, "run 1"), task("job", "answer a; arm a 1; run 1; raise a"))
        step = behind(machine, "main:0:1:0:- 0 1 9 x job - 0,0")
        self.assertEqual(told(step), ["0 begin job", "0 answer a", "1 raise a", "1 end job"])
        self.assertEqual((step.state.timers, step.state.owed), ((0,), (1,)))

    def test_the_queue_holds_four(self):
        machine = machine_of(source("a", 1, 9, "run 1; post job; post work"), task("job", "run 1"),
                             task("work", "run 1"))
        step = behind(machine, "main:0:1:0:- 1 1 9 x job,job,job - 0,0")
        self.assertEqual(told(step), ["0 enter a", "1 post job", "1 full work", "1 leave a"])
        self.assertEqual(step.state.queue, ("job",) * 4)
        step = behind(machine, "main:0:1:0:- 1 1 9 x job,work,job,work - 0,0")
        self.assertEqual(told(step), ["0 enter a", "1 full job", "1 full work", "1 leave a"])


class UseTests(unittest.TestCase):
    def test_only_the_top_frame_uses_a_tick(self):
        machine = machine_of(source("a", 1, 9, "run 3"), background("run 5"))
        self.assertEqual([step.state.frames for step in go(machine, "", "a", "")], [
            (("main", 0, 4, 0, ()),),
            (("main", 0, 4, 0, ()), ("a", 0, 2, 0, ())),
            (("main", 0, 4, 0, ()), ("a", 0, 1, 0, ())),
        ])

    def test_timers_go_down(self):
        machine = machine_of(source("a", 1, 9, "run 3"), source("b", 1, 9, "run 3"))
        step = behind(machine, "main:0:1:0:- 0,0 0,0 9,9 50,x - - 0,0")
        self.assertEqual(step.state.timers, (49, None))

    def test_ticks_that_are_left(self):
        machine = machine_of(source("a", 1, 9, "run 1"), background("run 3; raise a"))
        self.assertEqual([told(step) for step in go(machine, "", "", "")], [[], [], ["1 raise a"]])

    def test_going_on_behind_a_run(self):
        machine = machine_of(source("a", 1, 9, "run 1; mask 3; run 2; unmask; run 1"))
        steps = go(machine, "a", "", "", "")
        self.assertEqual([step.state.frames[1:] for step in steps], [
            (("a", 1, 2, 3, ()),), (("a", 1, 1, 3, ()),), (("a", 2, 1, 0, ()),), ()])
        self.assertEqual([step.height for step in steps], [1, 3, 3, 1])

    def test_leaving_without_ticks(self):
        machine = machine_of(source("a", 1, 9, "run 1"), background("run 2"))
        step = go(machine, "a")[0]
        self.assertEqual((told(step)[-1], step.state.frames), ("1 leave a", (("main", 0, 2, 0, ()),)))

    def test_leaving_with_ticks(self):
        machine = machine_of(source("a", 1, 9, "run 1; answer a", leave=2), background("run 2"))
        steps = go(machine, "a", "", "")
        self.assertEqual([told(step) for step in steps],
                         [["0 request a", "0 enter a", "1 answer a"], [], ["1 leave a"]])
        self.assertEqual([step.state.frames[1:] for step in steps],
                         [(("a", "out", 2, 0, ()),), (("a", "out", 1, 0, ()),), ()])

    def test_the_frame_below_goes_on_in_the_next_tick(self):
        machine = machine_of(source("a", 1, 9, "run 2; raise a"), source("b", 2, 9, "run 1"))
        steps = go(machine, "a", "b", "")
        self.assertEqual(told(steps[2]), ["1 raise a", "1 leave a"])

    def test_the_background_begins_again_without_a_mask(self):
        machine = machine_of(source("a", 1, 9, "run 1"), background("run 1; mask 4; run 1"))
        self.assertEqual([step.state.frames for step in go(machine, "", "")],
                         [(("main", 1, 1, 4, ()),), (("main", 0, 1, 0, ()),)])


class OverrunTests(unittest.TestCase):
    def test_an_overrun(self):
        machine = machine_of(source("a", 1, 9, "run 2; answer a"), overruns=2)
        steps = go(machine, "a", choice(over=True), choice(over=True), "")
        self.assertEqual([told(step) for step in steps],
                         [["0 request a", "0 enter a"], ["1 over a"], ["1 over a"],
                          ["1 answer a", "1 leave a"]])
        self.assertEqual([step.state.spare for step in steps], [(2, 0), (1, 0), (0, 0), (0, 0)])
        self.assertEqual(steps[1].state.frames[-1], ("a", 0, 1, 0, ()))

    def test_overruns_of_tasks_and_the_background_keep_mask_and_loops(self):
        machine = machine_of(source("a", 1, 9, "run 1"), task("job", "loop 3; mask 2; run 1; end; run 1"),
                             background("loop 2; mask 3; run 1; end; run 1"), overruns=1)
        step = behind(machine, "main:0:1:3:1 0 0 9 x - - 1,0", choice(over=True))
        self.assertEqual((told(step), step.state.frames), (["1 over main"], (("main", 0, 1, 3, (1,)),)))
        step = behind(machine, "main:1:1:0:-/job:0:1:2:2 0 0 9 x - - 1,0", choice(over=True))
        self.assertEqual((told(step), step.state.frames[-1]), (["1 over job"], ("job", 0, 1, 2, (2,))))

    def check(self, machine, text, possible):
        state = parse_state(machine.program, text)
        found = [step.choice[1] for step in machine.steps(state) if not step.choice[0]]
        self.assertEqual(found, [False, True] if possible else [False])

    def test_where_an_overrun_is_possible(self):
        machine = machine_of(source("a", 1, 9, "run 2", enter=1, leave=1), overruns=1)
        self.check(machine, "main:0:1:0:- 0 0 9 x - - 1,0", True)
        self.check(machine, "main:0:1:0:- 0 0 9 x - - 0,0", False)
        self.check(machine, "main:0:1:0:- 0 0 9 x - - 0,3", False)
        self.check(machine, "main:0:1:0:-/a:0:1:0:- 0 0 9 x - - 3,0", True)
        self.check(machine, "main:0:1:0:-/a:0:2:0:- 0 0 9 x - - 3,0", False)
        self.check(machine, "main:0:1:0:-/a:in:1:0:- 0 0 9 x - - 3,0", False)
        self.check(machine, "main:0:1:0:-/a:out:1:0:- 0 0 9 x - - 3,0", False)
        # The tick is that of the frame that is put on top in it.
        self.check(machine, "main:0:1:0:- 1 1 9 x - - 3,0", False)

    def test_no_way_is_taken_at_an_overrun(self):
        machine = machine_of(source("a", 1, 9, "run 1; either; run 1; or; end"), overruns=1)
        found = [step.choice for step in machine.steps(machine.start)][2:]
        self.assertEqual(found, [choice("a", False, "0"), choice("a", False, "1"), choice("a", True)])

    def test_ways_ahead_of_a_run_decide_whether_it_can_overrun(self):
        machine = machine_of(source("a", 1, 9, "either; run 1; or; run 2; end"), overruns=1)
        found = [step.choice for step in machine.steps(machine.start) if step.choice[0]]
        self.assertEqual(found, [choice("a", False, "0"), choice("a", False, "1"), choice("a", True, "1")])


class StatementTests(unittest.TestCase):
    def test_answers(self):
        machine = machine_of(source("a", 1, 9, "run 1; answer a; answer b; answer a", keep=3),
                             source("b", 2, 9, "run 1", keep=3))
        step = behind(machine, "main:0:1:0:- 1,0 1,3 9,9 x,x - - 0,0")
        self.assertEqual(told(step), ["0 enter a", "1 answer a", "1 answer b", "1 answer a", "1 leave a"])
        self.assertEqual((step.state.owed, step.state.pending), ((0, 2), (0, 0)))

    def test_answers_of_requests_that_are_still_kept(self):
        machine = machine_of(source("a", 1, 9, "run 1"), background("mask 9; run 1; answer a"))
        step = go(machine, "a")[0]
        self.assertEqual((step.state.pending, step.state.owed), ((1,), (0,)))

    def test_raise(self):
        machine = machine_of(source("a", 1, 9, "run 1; raise a; raise b; raise a; answer a"),
                             source("b", 2, 9, "run 1"))
        step = go(machine, "a")[0]
        self.assertEqual(told(step), ["0 request a", "0 enter a", "1 raise a", "1 raise b", "1 raise a",
                                      "1 lost a", "1 answer a", "1 leave a"])
        self.assertEqual((step.state.pending, step.state.owed, step.state.ages), ((1, 1), (1, 1), (0, 9)))

    def test_arm(self):
        for ticks in (1, 2, 50):
            for enter in (0, 1):
                # The timer is armed at the end of the tick, or at its beginning.
                machine = machine_of(source("a", 1, 50, "run 1", enter=0),
                                     source("b", 2, 50, f"arm a {ticks}; run 1", enter=enter))
                steps = go(machine, "b", *[""] * 51)
                asked = [at for at, step in enumerate(steps) if "0 timer a" in told(step)]
                self.assertEqual(asked, [enter + ticks])

    def test_arm_sets_a_timer_anew(self):
        machine = machine_of(source("a", 1, 9, "run 1; arm a 7; arm b 3; arm a 50"), source("b", 2, 9, "run 1"))
        step = behind(machine, "main:0:1:0:- 1,0 1,0 9,9 3,1 - - 0,0")
        self.assertEqual(step.state.timers, (50, 3))
        self.assertEqual(told(step), ["0 enter a", "1 leave a"])

    def test_a_source_that_arms_its_own_timer_when_it_is_asked(self):
        machine = machine_of(source("a", 1, 9, "arm a 1; run 1; answer a"))
        steps = go(machine, "a", "", "")
        self.assertEqual([told(step)[0] for step in steps], ["0 request a", "0 timer a", "0 timer a"])
        self.assertEqual(steps[2].state.timers, (0,))

    def test_counters_stay_within_their_bounds(self):
        machine = machine_of("counter c 2; counter d 1", source("a", 1, 9, "run 1"),
                             background("run 1; add c; run 1; add d; run 1; take c; run 1; take d"))
        found = {}
        for values in ((0, 0), (1, 1), (2, 1)):
            found[values] = []
            for place in range(4):
                row = ",".join(str(value) for value in values)
                step = behind(machine, f"main:{place}:1:0:- 0 0 9 x - {row} 0,0")
                self.assertEqual(told(step), [])
                found[values].append(step.state.counters)
        self.assertEqual(found, {
            (0, 0): [(1, 0), (0, 1), (0, 0), (0, 0)],
            (1, 1): [(2, 1), (1, 1), (0, 1), (1, 0)],
            (2, 1): [(2, 1), (2, 1), (1, 1), (2, 0)],
        })

    def test_when(self):
        machine = machine_of("counter c 2; counter d 2", source("a", 1, 9, "run 1"), background(
            "run 1; when d; add c; run 2; or; run 3; end"))
        for value, frame in ((0, ("main", 2, 3, 0, ())), (1, ("main", 1, 2, 0, ())), (2, ("main", 1, 2, 0, ()))):
            step = behind(machine, f"main:0:1:0:- 0 0 9 x - 0,{value} 0,0")
            self.assertEqual(step.state.frames, (frame,))
            self.assertEqual(step.state.counters, (1 if value else 0, value))
            self.assertEqual(told(step), [])

    def test_either(self):
        machine = machine_of(source("a", 1, 9, "run 1"), background("run 1; either; run 2; or; run 3; end"))
        steps = machine.steps(machine.start)
        self.assertEqual([step.choice for step in steps if not step.choice[0]],
                         [choice(ways="0"), choice(ways="1")])
        self.assertEqual([step.state.frames[0][1:3] for step in steps if not step.choice[0]], [(2, 3), (1, 2)])
        self.assertEqual([step.events for step in steps if not step.choice[0]], [[], []])

    def test_eithers_behind_and_inside_of_each_other(self):
        machine = machine_of(source("a", 1, 9, "run 1"), background(
            "run 1; either; either; run 2; or; run 3; end; or; end; either; or; end"))
        found = [(step.choice[2], step.state.frames[0][1]) for step in machine.steps(machine.start)
                 if not step.choice[0]]
        both = (False, True)
        expected = [((False, way), 0) for way in both]
        expected += [((True, False), 2), ((True, True), 1)]
        self.assertEqual(found, expected)

    def test_loops(self):
        machine = machine_of(source("a", 1, 9, "run 1"), background("loop 2; run 1; end; run 3"))
        self.assertEqual(machine.start.frames, (("main", 0, 1, 0, (1,)),))
        steps = machine.steps(machine.start)
        found = [(step.choice[2], step.state.frames) for step in steps if not step.choice[0]]
        self.assertEqual(found, [((False,), (("main", 1, 3, 0, ()),)), ((True,), (("main", 0, 1, 0, (0,)),))])
        # Behind the last pass no way is taken.
        step = go(machine, choice(ways="1"), NOTHING)[-1]
        self.assertEqual(step.state.frames, (("main", 1, 3, 0, ()),))

    def test_loops_inside_loops(self):
        machine = machine_of(source("a", 1, 9, "run 1"), background(
            "run 1; loop 3; loop 2; run 2; end; run 1; end"))
        found = {}
        for loops in ("2.1", "2.0", "0.1", "0.0"):
            state = parse_state(machine.program, f"main:1:1:0:{loops} 0 0 7 x - - 0,0")
            found[loops] = [(step.choice[2], step.state.frames[0][1:]) for step in machine.steps(state)]
        go_on = ((True,), (1, 2, 0, (2, 0)))
        self.assertEqual(found, {
            "2.1": [((False,), (2, 1, 0, (2,))), go_on],
            "2.0": [((), (2, 1, 0, (2,)))],
            "0.1": [((False,), (2, 1, 0, (0,))), ((True,), (1, 2, 0, (0, 0)))],
            "0.0": [((), (2, 1, 0, (0,)))],
        })
        state = parse_state(machine.program, "main:2:1:0:2 0 0 7 x - - 0,0")
        self.assertEqual(
            [(step.choice[2], step.state.frames[0][1:]) for step in machine.steps(state)],
            [((False,), (0, 1, 0, ())), ((True, False), (2, 1, 0, (1,))), ((True, True), (1, 2, 0, (1, 1)))],
        )

    def test_the_mask_goes_on_behind_inner_bodies(self):
        machine = machine_of(source("a", 1, 9, "run 1; either; mask 4; or; end; run 1; loop 1; mask 7; run 1; end; run 1"))
        steps = go(machine, choice("a", False, "1"), choice(ways="1"), NOTHING, NOTHING)
        self.assertEqual([step.state.frames[-1][3] for step in steps[:3]], [4, 7, 7])

    def test_a_further_mask_takes_the_place_of_the_one_ahead(self):
        machine = machine_of(source("a", 1, 9, "mask 7; run 1; mask 3; run 1; unmask; run 1"))
        self.assertEqual([step.height for step in go(machine, "a", "", "")], [7, 3, 1])

    def test_the_order_of_events(self):
        machine = machine_of(
            source("a", 3, 9, "answer a; post job; run 1; answer a; raise b; post job; arm a 5", keep=2),
            source("b", 1, 9, "run 1"), task("job", "run 1"),
        )
        step = behind(machine, "main:0:1:0:- 0,0 0,1 9,9 0,0 job,job,job - 0,0", "a b")
        self.assertEqual(told(step), [
            "0 timer a", "0 timer b", "0 request a", "0 request b", "0 lost b", "0 enter a", "0 answer a",
            "0 post job", "1 answer a", "1 raise b", "1 lost b", "1 full job", "1 leave a",
        ])
        self.assertEqual(step.state.text, "main:0:1:0:- 1,1 0,2 0,0 5,x job,job,job,job - 0,0")


class StartTests(unittest.TestCase):
    def test_a_plain_start(self):
        machine = machine_of("counter c 3", source("a", 1, 7, "run 1"), source("b", 1, 50, "run 1"),
                             background("mask 4; run 5"), overruns=2, early=3)
        self.assertEqual(machine.start.text, "main:0:5:4:- 0,0 0,0 7,50 x,x - 0 2,3")

    def test_effects_ahead_of_the_first_run(self):
        machine = machine_of(
            "counter c 3", source("a", 1, 7, "run 1"), source("b", 1, 9, "run 1"),
            task("job", "run 1"),
            background("raise a; raise a; arm b 4; post job; add c; add c; take c; answer b; mask 3; run 2"),
        )
        self.assertEqual(machine.start.text, "main:0:2:3:- 1,0 1,0 7,9 x,4 job 1 0,0")
        self.assertEqual(events(machine, ""), [])

    def test_a_timer_of_the_beginning(self):
        machine = machine_of(source("a", 1, 7, "run 1"), background("arm a 2; run 9"))
        steps = go(machine, "", "", "")
        self.assertEqual([told(step)[:1] for step in steps], [[], [], ["0 timer a"]])

    def test_all_ways_are_true(self):
        machine = machine_of(source("a", 1, 7, "run 1"), background(
            "either; raise a; or; arm a 3; end; loop 5; loop 3; run 4; end; run 1; end; run 2"))
        self.assertEqual(machine.start.text, "main:0:4:0:4.2 1 1 7 x - - 0,0")

    def test_all_sources_may_request_at_once(self):
        machine = machine_of(*[source(name, 1, 50, "run 1") for name in "abcd"])
        self.assertEqual(len(machine.steps(machine.start)), 16)


if __name__ == "__main__":
    unittest.main()

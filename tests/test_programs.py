"""Tests of Program."""

import copy
import unittest

from interruptruns import programs
from interruptruns.errors import InvalidBody, InvalidName, InvalidProgram
from interruptruns.programs import Program, Source, least_ticks, most_ticks

RUN = ("run", 1)


def source(name="fast", body=(RUN,), **more):
    return Source(name, 2, 7, body, **more)


FAST, SLOW = source("fast"), source("slow", (RUN, ("answer", "slow")), keep=2, enter=1, leave=3)
BACKGROUND = (("run", 3),)
TASKS = (("job", (("run", 4),)), ("work", (RUN, ("post", "job"))))
COUNTERS = (("count", 2), ("sum", 5))
RIGHT = {"sources": (FAST, SLOW), "background": BACKGROUND, "tasks": TASKS, "counters": COUNTERS}
ORDER = ("sources", "background", "tasks", "counters")


def many(names):
    return [source(name) for name in names]


class ProgramTests(unittest.TestCase):
    def refuse(self, value, **changes):
        with self.assertRaises(InvalidProgram) as caught:
            Program(**{**RIGHT, **changes})
        self.assertIs(caught.exception.value, value)

    def refuse_part(self, name, value):
        self.refuse(value, **{name: value})

    def test_properties(self):
        program = Program(**RIGHT)
        for name, value in RIGHT.items():
            self.assertEqual(getattr(program, name), value)
            self.assertIsInstance(getattr(program, name), tuple)
        self.assertEqual(program.names, ("fast", "slow"))
        self.assertIsInstance(program.names, tuple)
        self.assertIs(program.sources[0], FAST)

    def test_lists_become_tuples(self):
        lists = {"sources": [FAST, SLOW], "tasks": list(TASKS), "counters": list(COUNTERS)}
        program = Program(**{**RIGHT, **lists})
        for name, value in RIGHT.items():
            self.assertEqual(getattr(program, name), value)
            self.assertIsInstance(getattr(program, name), tuple)

    def test_defaults_and_positions(self):
        program = Program([FAST], BACKGROUND)
        self.assertEqual((program.tasks, program.counters), ((), ()))
        self.assertEqual((program.sources, program.background), ((FAST,), BACKGROUND))
        with self.assertRaises(TypeError):
            Program([FAST], BACKGROUND, ())

    def test_the_class_stands_in_its_file(self):
        self.assertEqual(programs.Program.__module__, "interruptruns.programs")
        for name in (*ORDER, "names", "body_of", "source_of", "replaced"):
            self.assertIn(name, vars(Program))

    def test_how_many(self):
        self.assertEqual(Program(many("abcd"), BACKGROUND).names, ("a", "b", "c", "d"))
        self.refuse_part("sources", [])
        self.refuse_part("sources", ())
        self.refuse_part("sources", many("abcde"))
        self.refuse_part("sources", [FAST] * 5000)
        for name, kind in (("tasks", (RUN,)), ("counters", 1)):
            three = [(letter, kind) for letter in "abc"]
            self.assertEqual(getattr(Program([FAST], BACKGROUND, **{name: three}), name),
                             tuple(three))
            self.refuse_part(name, [(letter, kind) for letter in "abcd"])
            self.refuse_part(name, ((),) * 5000)

    def test_wrong_sources(self):
        for wrong in (None, 1, "fast", FAST, {"fast": FAST}, {1}, object(), [None], [FAST, "slow"],
                      ("fast",), [[FAST]], [Source], iter([FAST]), range(1)):
            self.refuse_part("sources", wrong)

    def test_wrong_backgrounds(self):
        for wrong in (None, 1, "run", [RUN], RUN, (("run", 0),), (), (("unmask",),),
                      (("either", (RUN,), ()),), (("loop", 3, (RUN,)),), (("loop", 1, ()), RUN),
                      (("when", "count", (), (RUN,)),)):
            self.refuse_part("background", wrong)

    def test_wrong_tasks(self):
        for wrong in (None, 1, "job", {"job": (RUN,)}, object(), [None], ["ab"], [()], [("job",)],
                      [("job", (RUN,), 1)], [["job", (RUN,)]], [("job", [RUN])], [("job", RUN)],
                      [("Job", (RUN,))], [("", (RUN,))], [("abcdefghi", (RUN,))], [(1, (RUN,))],
                      [(["job"], (RUN,))], [("job", ())], [("job", None)],
                      [("job", (("either", (), (RUN,)),))], [("job", (("loop", 1, (RUN,)),))],
                      [TASKS[0], ("work", ())], ((RUN,), "job"), iter(())):
            self.refuse_part("tasks", wrong)

    def test_wrong_counters(self):
        for wrong in (None, 1, "count", {"count": 1}, object(), [None], ["ab"], [()], [("count",)],
                      [("count", 1, 1)], [["count", 1]], [("count", 0)], [("count", 6)],
                      [("count", True)], [("count", "1")], [("count", 1.0)], [("count", None)],
                      [("Count", 1)], [("", 1)], [(1, 1)], [(["count"], 1)], [("sum", 1), ("a", -1)],
                      iter(())):
            self.refuse_part("counters", wrong)

    def test_bounds_of_counters(self):
        for most in (1, 5):
            program = Program([FAST], BACKGROUND, counters=[("count", most)])
            self.assertEqual(program.counters, (("count", most),))

    def test_the_order_of_wrong_parts(self):
        wrong = {"sources": [1], "background": [2], "tasks": [3], "counters": [4]}
        for at, name in enumerate(ORDER):
            self.refuse(wrong[name], **{other: wrong[other] for other in ORDER[at:]})

    def test_a_wrong_part_goes_ahead_of_names_and_uses(self):
        twice = [FAST, source("fast", (RUN, ("answer", "none")))]
        self.refuse_part("sources", [*twice, None])
        self.refuse((), sources=twice, background=())
        wrong = [("main", (RUN, ("post", "none"))), ("main", ())]
        self.refuse(wrong, sources=twice, tasks=wrong)
        wrong = [("main", 1), ("main", 0)]
        self.refuse(wrong, sources=twice, counters=wrong)


class NameTests(unittest.TestCase):
    def refuse(self, value, sources, tasks=(), counters=(), background=BACKGROUND):
        tasks = [(name, (RUN,)) for name in tasks]
        counters = [(name, 1) for name in counters]
        with self.assertRaises(InvalidProgram) as caught:
            Program(many(sources), background, tasks=tasks, counters=counters)
        self.assertEqual(caught.exception.value, value)

    def test_names_that_are_met_twice(self):
        self.refuse("a", ["a", "a"])
        self.refuse("b", ["a", "b", "c", "b"])
        self.refuse("a", ["a"], ["a"])
        self.refuse("a", ["a"], [], ["a"])
        self.refuse("b", ["a"], ["b", "b"])
        self.refuse("b", ["a"], ["b"], ["b"])
        self.refuse("c", ["a"], ["b"], ["c", "c"])

    def test_main(self):
        self.refuse("main", ["main"])
        self.refuse("main", ["a", "main"])
        self.refuse("main", ["a"], ["main"])
        self.refuse("main", ["a"], ["b"], ["c", "main"])

    def test_the_order_of_names(self):
        self.refuse("b", ["a", "b", "b", "a"])
        self.refuse("main", ["main", "a", "a"])
        self.refuse("a", ["a", "a", "main"])
        self.refuse("b", ["a", "b"], ["b", "a"], ["main"])
        self.refuse("main", ["a"], ["main", "a"], ["a"])
        self.refuse("a", ["a"], ["b", "a"], ["b"])

    def test_names_go_ahead_of_uses(self):
        self.refuse("a", ["a"], ["a"], background=(RUN, ("answer", "none")))


class UseTests(unittest.TestCase):
    # Each kind of statement with the kind of name that it needs.
    NEEDS = (
        (lambda name: ("answer", name), "source"),
        (lambda name: ("raise", name), "source"),
        (lambda name: ("arm", name, 3), "source"),
        (lambda name: ("post", name), "task"),
        (lambda name: ("when", name, (), ()), "counter"),
        (lambda name: ("add", name), "counter"),
        (lambda name: ("take", name), "counter"),
    )
    NAMES = {"source": ("fast", "slow"), "task": ("job",), "counter": ("count",),
             "none": ("main", "other")}

    def build(self, fast=(RUN,), slow=(RUN,), job=(RUN,), main=(RUN,)):
        sources = [source("fast", fast), source("slow", slow)]
        return Program(sources, main, tasks=[("job", job)], counters=[("count", 1)])

    def test_each_statement_needs_its_kind_of_name(self):
        for make, needed in self.NEEDS:
            for kind, names in self.NAMES.items():
                for name in names:
                    body = (RUN, make(name))
                    for place in ("fast", "slow", "job", "main"):
                        self.look_at(place, body, kind == needed)

    def look_at(self, place, body, fits):
        if fits:
            self.assertEqual(self.build(**{place: body}).body_of(place), body)
            return
        with self.assertRaises(InvalidProgram) as caught:
            self.build(**{place: body})
        self.assertIs(caught.exception.value, body)

    def test_names_inside_of_bodies(self):
        wrong = ("post", "fast")
        for outer in (("either", (wrong,), ()), ("either", (), (wrong,)), ("loop", 1, (RUN, wrong)),
                      ("when", "count", (wrong,), ()), ("when", "count", (), (wrong,))):
            self.look_at("main", (RUN, outer), False)
            self.look_at("fast", (RUN, ("either", (), (("either", (outer,), ()),))), False)

    def test_the_first_body_with_a_wrong_name(self):
        places = ("fast", "slow", "job", "main")
        wrong = {place: (("run", at + 1), ("answer", "job")) for at, place in enumerate(places)}
        for at, place in enumerate(places):
            with self.assertRaises(InvalidProgram) as caught:
                self.build(**{other: wrong[other] for other in places[at:]})
            self.assertIs(caught.exception.value, wrong[place])

    def test_the_order_of_tasks(self):
        wrong = [("job", (RUN, ("post", "none"))), ("work", (RUN, ("post", "no")))]
        with self.assertRaises(InvalidProgram) as caught:
            Program([FAST], BACKGROUND, tasks=wrong)
        self.assertIs(caught.exception.value, wrong[0][1])


class ChangeTests(unittest.TestCase):
    def test_later_changes_of_lists_have_no_effect(self):
        sources, tasks, counters = [FAST, SLOW], list(TASKS), list(COUNTERS)
        program = Program(sources, BACKGROUND, tasks=tasks, counters=counters)
        for changed in (sources, tasks, counters):
            changed.clear()
        self.assertEqual(program, Program(**RIGHT))
        self.assertEqual(program.names, ("fast", "slow"))
        self.assertEqual(program.body_of("job"), (("run", 4),))

    def test_arguments_are_not_changed(self):
        lists = {name: list(RIGHT[name]) for name in ("sources", "tasks", "counters")}
        before = copy.deepcopy(lists)
        Program(background=BACKGROUND, **lists)
        self.assertEqual(lists, before)


class EqualityTests(unittest.TestCase):
    def test_equal_properties(self):
        program = Program(**RIGHT)
        again = Program([source("fast"), SLOW], BACKGROUND, tasks=list(TASKS), counters=COUNTERS)
        self.assertIs(program == again, True)
        self.assertIs(program != again, False)

    def test_each_property_counts(self):
        program = Program(**RIGHT)
        others = {"sources": (SLOW, FAST), "background": (("run", 4),), "tasks": TASKS[::-1],
                  "counters": (("count", 2), ("sum", 4))}
        for name, value in others.items():
            other = Program(**{**RIGHT, name: value})
            self.assertIs(program == other, False)
            self.assertIs(program != other, True)
        self.assertIs(program == Program(**{**RIGHT, "sources": (FAST, source("slow"))}), False)

    def test_other_objects(self):
        program = Program(**RIGHT)
        for other in (None, 0, "x", tuple(RIGHT.values()), RIGHT, FAST, object(), Program):
            self.assertIs(program == other, False)
            self.assertIs(other == program, False)
            self.assertIs(program != other, True)


NO_NAMES = (None, 0, True, "", "none", "count", "Fast", b"fast", ["fast"], ("fast",), {}, FAST)


class Alike:
    """An object that is equal to everything."""

    __hash__ = None

    def __eq__(self, other):
        return True


class LookUpTests(unittest.TestCase):
    def refuse(self, method, wrong):
        with self.assertRaises(InvalidName) as caught:
            method(wrong)
        self.assertIs(caught.exception.value, wrong)

    def test_body_of(self):
        program = Program(**RIGHT)
        bodies = {"fast": FAST.body, "slow": SLOW.body, "job": TASKS[0][1], "work": TASKS[1][1],
                  "main": BACKGROUND}
        for name, body in bodies.items():
            self.assertEqual(program.body_of(name), body)
            self.assertEqual(program.body_of(name=name), body)
        for wrong in (*NO_NAMES, Alike()):
            self.refuse(program.body_of, wrong)

    def test_source_of(self):
        program = Program(**RIGHT)
        self.assertEqual(program.source_of("fast"), FAST)
        self.assertEqual(program.source_of(name="slow"), SLOW)
        for wrong in (*NO_NAMES, "job", "main", Alike()):
            self.refuse(program.source_of, wrong)


class ReplacedTests(unittest.TestCase):
    NEW = (("run", 9), ("add", "sum"))

    def refuse(self, kind, value, name, body):
        program = Program(**RIGHT)
        with self.assertRaises(kind) as caught:
            program.replaced(name, body)
        self.assertEqual(caught.exception.value, value)
        self.assertEqual(program, Program(**RIGHT))

    def test_a_source(self):
        program = Program(**RIGHT)
        new = source("slow", self.NEW, keep=2, enter=1, leave=3)
        expected = Program(**{**RIGHT, "sources": (FAST, new)})
        self.assertEqual(program.replaced("slow", self.NEW), expected)
        self.assertEqual(program.replaced(name="slow", body=self.NEW), expected)
        self.assertEqual(program, Program(**RIGHT))

    def test_a_task(self):
        expected = Program(**{**RIGHT, "tasks": (TASKS[0], ("work", self.NEW))})
        self.assertEqual(Program(**RIGHT).replaced("work", self.NEW), expected)

    def test_the_background(self):
        expected = Program(**{**RIGHT, "background": self.NEW})
        self.assertEqual(Program(**RIGHT).replaced("main", self.NEW), expected)

    def test_the_same_body(self):
        program = Program(**RIGHT)
        for name in ("fast", "slow", "job", "work", "main"):
            self.assertEqual(program.replaced(name, program.body_of(name)), program)

    def test_wrong_names(self):
        for wrong in NO_NAMES:
            self.refuse(InvalidName, wrong, wrong, self.NEW)
            self.refuse(InvalidName, wrong, wrong, None)

    def test_what_is_no_body(self):
        for name in ("fast", "job", "main"):
            for wrong in (None, [RUN], (("run", 0),), (("loop", 1, ()),), "run"):
                self.refuse(InvalidBody, wrong, name, wrong)

    def test_bodies_without_ticks(self):
        idle = (("either", (RUN,), ()),)
        self.refuse(InvalidBody, idle, "fast", idle)
        self.refuse(InvalidProgram, idle, "main", idle)
        self.refuse(InvalidProgram, (("job", idle), TASKS[1]), "job", idle)
        self.assertEqual(Program(**RIGHT).replaced("slow", idle).body_of("slow"), idle)

    def test_wrong_uses(self):
        wrong = (RUN, ("post", "slow"))
        for name in ("fast", "slow", "job", "work", "main"):
            self.refuse(InvalidProgram, wrong, name, wrong)


class DocumentTests(unittest.TestCase):
    def test_the_example(self):
        body = (('run', 2), ('either', (('run', 3),), ()), ('loop', 2, (('run', 1),)))
        fast = Source('fast', 2, 7, (('run', 2), ('answer', 'fast')))
        slow = Source('slow', 1, 20, (('run', 3), ('answer', 'slow')))
        program = Program([fast, slow], (('run', 1), ('mask', 9), ('run', 4), ('unmask',)))
        found = [least_ticks(body), most_ticks(body), program.names,
                 program.source_of('slow').gap, program.body_of('main')[0]]
        self.assertEqual(found, [2, 7, ('fast', 'slow'), 20, ('run', 1)])


if __name__ == "__main__":
    unittest.main()

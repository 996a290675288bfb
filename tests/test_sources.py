"""Tests of Source."""

import unittest

from interruptruns import programs
from interruptruns.errors import InvalidBody, InvalidName, InvalidNumber
from interruptruns.programs import Program, Source

BODY = (("run", 2), ("answer", "fast"))
RIGHT = {"name": "fast", "level": 2, "gap": 7, "body": BODY, "keep": 3, "enter": 1, "leave": 4}
BOUNDS = {"level": (1, 9), "gap": (1, 50), "keep": (1, 3), "enter": (0, 5), "leave": (0, 5)}
WRONG_NAMES = (None, True, 1, "", "abcdefghi", "A", "a1", "a b", "a\n", b"a", ["a"], ("a",), {})
WRONG_NUMBERS = (None, True, False, 1.0, "1", b"1", [1], (1,), {}, -1, 10 ** 29)
WRONG_BODIES = (None, 1, "run", [], [("run", 1)], (("run", 0),), ("run", 1), (["run", 1],),
                (("loop", 1, ()),))


class SourceTests(unittest.TestCase):
    def refuse(self, kind, value, changes):
        with self.assertRaises(kind) as caught:
            Source(**{**RIGHT, **changes})
        self.assertIs(caught.exception.value, value)

    def test_properties(self):
        source = Source(**RIGHT)
        for name, value in RIGHT.items():
            self.assertEqual(getattr(source, name), value)
            self.assertEqual(type(getattr(source, name)), type(value))

    def test_defaults_and_positions(self):
        source = Source("fast", 2, 7, BODY)
        self.assertEqual((source.keep, source.enter, source.leave), (1, 0, 0))
        self.assertEqual((source.name, source.level, source.gap, source.body), ("fast", 2, 7, BODY))
        with self.assertRaises(TypeError):
            Source("fast", 2, 7, BODY, 1)

    def test_the_class_stands_in_its_file(self):
        self.assertEqual(programs.Source.__module__, "interruptruns.programs")
        for name in RIGHT:
            self.assertIn(name, vars(Source))

    def test_bounds(self):
        for name, (least, most) in BOUNDS.items():
            for value in (least, most):
                self.assertEqual(getattr(Source(**{**RIGHT, name: value}), name), value)
            for value in (least - 1, most + 1):
                self.refuse(InvalidNumber, value, {name: value})

    def test_wrong_names(self):
        for wrong in WRONG_NAMES:
            self.refuse(InvalidName, wrong, {"name": wrong})

    def test_right_names(self):
        for name in ("a", "z", "abcdefgh", "main", "end"):
            self.assertEqual(Source(**{**RIGHT, "name": name}).name, name)

    def test_wrong_numbers(self):
        for name in BOUNDS:
            for wrong in WRONG_NUMBERS:
                self.refuse(InvalidNumber, wrong, {name: wrong})

    def test_wrong_bodies(self):
        for wrong in WRONG_BODIES:
            self.refuse(InvalidBody, wrong, {"body": wrong})

    def test_some_tick_is_used(self):
        for body in ((), (("answer", "fast"),), (("either", (("run", 3),), ()),),
                     (("loop", 5, (("run", 3),)),), (("when", "a", (), (("run", 3),)),)):
            self.refuse(InvalidBody, body, {"body": body, "enter": 0, "leave": 0})
            self.assertEqual(Source("a", 1, 1, body, enter=1).body, body)
            self.assertEqual(Source("a", 1, 1, body, leave=1).body, body)

    def test_names_in_the_body_do_not_count(self):
        body = (("run", 1), ("post", "job"), ("raise", "other"), ("add", "main"))
        self.assertEqual(Source("a", 1, 1, body).body, body)

    def test_the_order_of_the_errors(self):
        wrong = {"name": ["no"], "level": [1], "gap": [2], "keep": [3], "enter": [4], "leave": [5],
                 "body": [6]}
        kinds = {"name": InvalidName, "body": InvalidBody}
        names = list(wrong)
        for at, name in enumerate(names):
            kind = kinds.get(name, InvalidNumber)
            self.refuse(kind, wrong[name], {other: wrong[other] for other in names[at:]})

    def test_equality(self):
        source = Source(**RIGHT)
        self.assertIs(source == Source(**RIGHT), True)
        self.assertIs(source != Source(**RIGHT), False)
        others = {"name": "slow", "level": 3, "gap": 8, "body": (("run", 2),), "keep": 2,
                  "enter": 0, "leave": 5}
        for name, value in others.items():
            other = Source(**{**RIGHT, name: value})
            self.assertIs(source == other, False)
            self.assertIs(source != other, True)

    def test_equality_with_other_objects(self):
        source = Source(**RIGHT)
        values = tuple(RIGHT.values())
        program = Program([source], (("run", 1),))
        for other in (None, "fast", 0, values, list(values), RIGHT, object(), Source, program):
            self.assertIs(source == other, False)
            self.assertIs(other == source, False)
            self.assertIs(source != other, True)


if __name__ == "__main__":
    unittest.main()

"""Tests of is_body, least_ticks and most_ticks."""

import unittest

from interruptruns.errors import InvalidBody
from interruptruns.programs import is_body, least_ticks, most_ticks

RUN = ("run", 1)

# Each with the least and the greatest number that it takes.
NUMBERED = (
    (lambda n: ("run", n), 1, 20),
    (lambda n: ("loop", n, (RUN,)), 1, 5),
    (lambda n: ("mask", n), 1, 9),
    (lambda n: ("arm", "fast", n), 1, 50),
)

# Each takes any name.
NAMED = (
    lambda name: ("when", name, (), ()),
    lambda name: ("answer", name),
    lambda name: ("raise", name),
    lambda name: ("arm", name, 1),
    lambda name: ("post", name),
    lambda name: ("add", name),
    lambda name: ("take", name),
)

STATEMENTS = (
    ("run", 3),
    ("either", (RUN,), ()),
    ("when", "counter", (RUN,), ()),
    ("loop", 2, (RUN,)),
    ("mask", 4),
    ("unmask",),
    ("answer", "fast"),
    ("raise", "fast"),
    ("arm", "fast", 7),
    ("post", "job"),
    ("add", "counter"),
    ("take", "counter"),
)


class Alike:
    """An object that is equal to everything."""

    __hash__ = None

    def __eq__(self, other):
        return True


class Unlike:
    """An object that cannot be compared."""

    __hash__ = None

    def __eq__(self, other):
        raise AssertionError("compared")


NO_BODIES = (
    None, True, False, 0, 1, -3, 1.5, "", "run", b"run", [], {}, set(), object(), Alike(), Unlike(),
    [RUN], {"run": 1}, {RUN}, RUN, ("run",), (None,), (1,), ("run 1",), ((),), ((RUN,),),
    ([],), (["run", 1],), ({"run": 1},), (RUN, None), (RUN, ["run", 1]), (RUN, ("walk", 1)),
    ((1, "run"),), ((b"run", 1),), ((None, 1),), (("Run", 1),), ((["run"], 1),), ((("run",), 1),),
    (("", 1),), (("run ", 1),), ((Alike(), 1),), ((Unlike(), 1),), (Alike(),), (("end",),),
    (("or",),), (("background",),),
)


def nested(levels, inmost=()):
    """Return a body with this many levels, itself included."""
    body = inmost
    for _ in range(levels - 1):
        body = (("when", "counter", body, ()),)
    return body


class IsBodyTests(unittest.TestCase):
    def accept(self, *values):
        for value in values:
            self.assertIs(is_body(value), True, value)

    def refuse(self, *values):
        for value in values:
            self.assertIs(is_body(value), False, value)

    def test_each_statement_alone_and_together(self):
        self.accept((), STATEMENTS, *[(one,) for one in STATEMENTS])
        self.assertIs(is_body(value=STATEMENTS), True)

    def test_bounds_of_numbers(self):
        for make, least, most in NUMBERED:
            self.accept((make(least),), (make(most),), (make((least + most) // 2),))
            self.refuse((make(least - 1),), (make(most + 1),), (make(-least),), (make(10 ** 29),))

    def test_no_numbers(self):
        for make, _, _ in NUMBERED:
            for wrong in (True, False, None, 1.0, "1", b"1", (), (1,), [1], Alike(), Unlike()):
                self.refuse((make(wrong),))

    def test_any_names(self):
        for make in NAMED:
            self.accept(*[(make(name),) for name in ("a", "z", "abcdefgh", "main", "run", "end")])

    def test_no_names(self):
        wrong_names = ("", "abcdefghi", "A", "aB", "a1", "1", "a b", " a", "a_", "a-b", "a\n", "~",
                       None, 1, True, b"a", ("a",), ["a"], (), Alike(), Unlike())
        for make in NAMED:
            for wrong in wrong_names:
                self.refuse((make(wrong),))

    def test_a_part_less_or_more(self):
        for statement in STATEMENTS:
            self.refuse((statement[:-1],), (statement + (1,),), (statement + ("a",),))
            self.refuse((statement + ((),),), (statement + (None,),))
            self.refuse((statement[1:],), (statement[::-1] if len(statement) > 1 else (),))

    def test_lists_in_the_place_of_tuples(self):
        for statement in STATEMENTS:
            self.refuse([statement], (list(statement),))
        self.refuse((("either", [RUN], ()),), (("either", (), [RUN]),), (("either", [], ()),))
        self.refuse((("when", "a", [], ()),), (("when", "a", (), []),), (("loop", 1, [RUN]),))
        self.refuse((("either", (list(RUN),), ()),), (("loop", 1, (list(RUN),)),))

    def test_what_is_no_body_at_all(self):
        self.refuse(*NO_BODIES)

    def test_what_is_no_body_inside(self):
        for wrong in NO_BODIES:
            self.refuse((("either", wrong, ()),), (("either", (), wrong),), (("loop", 1, wrong),))
            self.refuse((("when", "a", wrong, ()),), (("when", "a", (), wrong),))

    def test_a_loop_uses_a_tick_on_every_way(self):
        self.refuse((("loop", 1, ()),))
        self.refuse((("loop", 5, (("unmask",), ("answer", "a"))),))
        self.refuse((("loop", 1, (("either", (RUN,), ()),)),))
        self.refuse((("loop", 1, (("either", (), (RUN,)),)),))
        self.refuse((("loop", 1, (("when", "a", (RUN,), ()),)),))
        self.refuse((("loop", 1, (("when", "a", (), (RUN,)),)),))
        self.refuse((("loop", 2, (("loop", 2, (RUN,)),)),))
        self.refuse((RUN, ("either", (), (("loop", 1, (("mask", 1),)),))))
        self.refuse((("loop", 1, (("loop", 1, ()), RUN)),))
        self.accept((("loop", 1, (("either", (RUN,), (("run", 2),)),)),))
        self.accept((("loop", 1, (("when", "a", (RUN,), (RUN,)),)),))
        self.accept((("loop", 2, (("loop", 2, (RUN,)), RUN)),))

    def test_the_number_of_statements(self):
        self.accept((RUN,) * 40, (("when", "a", (RUN,) * 20, (RUN,) * 19),))
        self.accept((RUN,) * 20 + (("loop", 1, (RUN,) * 19),))
        self.refuse((RUN,) * 41, (("when", "a", (RUN,) * 20, (RUN,) * 20),))
        self.refuse((RUN,) * 20 + (("loop", 1, (RUN,) * 20),), (RUN,) * 5000)
        self.refuse((("when", "a", (), (RUN,) * 38), RUN, RUN))

    def test_statements_that_stand_in_many_places_are_counted_soon(self):
        body = (RUN,) * 5000
        for _ in range(3):
            body = (("either", body, body),) * 5000
        self.refuse(body)
        body = (RUN,)
        for _ in range(18):
            body = (("when", "a", body, body),)
        self.refuse(body)

    def test_the_number_of_either_and_loop(self):
        either, loop = ("either", (), ()), ("loop", 1, (RUN,))
        self.accept((either,) * 6, (loop,) * 6, (either, loop) * 3)
        self.refuse((either,) * 7, (loop,) * 7, (either, loop) * 3 + (either,))
        self.accept((("either", (either,) * 2, (either, loop, loop)),))
        self.refuse((("either", (either,) * 3, (either, loop, loop)),))
        self.accept((("loop", 1, (RUN, *(either,) * 5)),))
        self.refuse((("loop", 1, (RUN, *(either,) * 6)),))
        self.accept((("when", "a", (either,) * 3, (loop,) * 3),))
        self.refuse((("when", "a", (either,) * 3, (loop,) * 4),))
        self.accept((("when", "a", (), ()),) * 40)

    def test_the_number_of_levels(self):
        self.accept(*[nested(levels) for levels in (1, 2, 3, 4)])
        self.accept(nested(4, (RUN,)))
        self.refuse(nested(5), nested(5, (RUN,)), nested(6), nested(19))
        for statement in STATEMENTS:
            fits = not any(isinstance(part, tuple) for part in statement)
            self.assertIs(is_body(nested(4, (statement,))), fits)
            self.assertIs(is_body(nested(3, (statement,))), True)
        self.refuse((("when", "a", (), nested(4)),), (("loop", 1, (RUN, *nested(4))),))
        self.accept((("when", "a", nested(3), nested(3)),))


class TickTests(unittest.TestCase):
    def check(self, body, least, most):
        self.assertEqual((least_ticks(body), most_ticks(body)), (least, most))
        self.assertEqual((least_ticks(body=body), most_ticks(body=body)), (least, most))

    def test_statements_without_ticks(self):
        self.check((), 0, 0)
        for statement in STATEMENTS[4:]:
            self.check((statement,), 0, 0)
            self.check((statement, ("run", 4)), 4, 4)

    def test_run(self):
        self.check((("run", 1),), 1, 1)
        self.check((("run", 20), ("run", 3)), 23, 23)
        self.check((("run", 20),) * 40, 800, 800)

    def test_either(self):
        self.check((("either", (), ()),), 0, 0)
        self.check((("either", (("run", 3),), ()),), 0, 3)
        self.check((("either", (), (("run", 3),)),), 0, 3)
        self.check((("either", (("run", 5),), (("run", 3), RUN)),), 4, 5)

    def test_when_counts_both_ways(self):
        self.check((("when", "a", (("run", 3),), ()),), 0, 3)
        self.check((("when", "a", (), (("run", 3),)),), 0, 3)
        self.check((("when", "a", (("run", 2),), (("run", 9),)), RUN), 3, 10)
        same = ("when", "a", (("run", 2),), (("run", 9),))
        self.check((same, same), 4, 18)

    def test_loop(self):
        self.check((("loop", 1, (RUN,)),), 0, 1)
        self.check((("loop", 5, (("run", 20),)),), 0, 100)
        self.check((("loop", 3, (("either", (RUN,), (("run", 4),)),)), ("run", 2)), 2, 14)

    def test_nested_ones(self):
        inner = ("loop", 2, (("run", 3), ("when", "a", (RUN,), ())))
        self.check((inner,), 0, 8)
        self.check((("either", (inner, RUN), (("run", 5),)),), 1, 9)
        self.check((("loop", 5, (("loop", 5, (("run", 20),)), RUN)),), 0, 505)
        self.check(nested(4, (("run", 7),)), 0, 7)

    def test_what_is_no_body(self):
        for wrong in (*NO_BODIES, (("loop", 1, ()),), (("run", 21),), (RUN,) * 41, nested(5)):
            for function in (least_ticks, most_ticks):
                with self.assertRaises(InvalidBody) as caught:
                    function(wrong)
                self.assertIs(caught.exception.value, wrong)


if __name__ == "__main__":
    unittest.main()

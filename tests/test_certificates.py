"""Tests of certificates: choices as texts, and what certificates tell line by line."""

import random
import unittest

from drawn import THINGS, any_machine, any_question
from interruptruns.certificates import certify, certify_depth, certify_never, check, format_choice, parse_choice
from interruptruns.console import Console
from interruptruns.errors import InvalidEvent, InvalidNumber, ParseError, TooMany
from interruptruns.extremes import most_frames
from interruptruns.formats import format_program, parse_program
from interruptruns.longest import longest
from interruptruns.machine import Machine
from interruptruns.reach import Reach
from second_waits import all_pairs
from small import background, choice, machine_of, source, task

SMALL = "source a level 1 gap 2 keep 1 enter 0 leave 0\nrun 1\nanswer a\nend\nbackground\nrun 1\nend"
CHOICES = (
    (choice(), "- 0 -"), (choice("a"), "a 0 -"), (choice("a", True), "a 1 -"), (choice("", True), "- 1 -"),
    (choice("slow fast abcdefgh"), "slow,fast,abcdefgh 0 -"), (choice("", False, "0"), "- 0 0"), (choice("", False, "1"), "- 0 1"),
    (choice("a b", True, "10110"), "a,b 1 10110"), (choice("", False, "000"), "- 0 000"),
)
WRONG_CHOICES = (
    *[thing for thing in THINGS], "a", "a 0", "a 0 - -", "a 0 1 0", "- 0", "a  0 -", "a 0  -", " a 0 -", "a 0 - ", "  ", "   ", "- 0 ", " 0 -",
    "- - -", "-  -", ", 0 -", "a, 0 -", ",a 0 -", "a,,b 0 -", "a 2 -", "a 00 -", "a 01 -", "a 10 -", "a True -", "a x -", "a - -", "a 0 2", "a 0 012",
    "a 0 1-", "a 0 -1", "a 0 --", "a 0 1,0", "a 0 x", "a\t0 -", "a 0 -\n", "a 0\n-", "a\n0 -", "a,b c 0 -", choice("a"), ["a", "0", "-"], b"a 0 -",
)


class ChoiceTests(unittest.TestCase):
    def test_both_ways(self):
        for one, text in CHOICES:
            self.assertEqual(format_choice(one), text)
            self.assertEqual(parse_choice(text), one)
            self.assertEqual(format_choice(choice=one), text)
            self.assertEqual(parse_choice(text=text), one)
            requests, over, ways = parse_choice(text)
            self.assertEqual([type(part) for part in (requests, over, ways)], [tuple, bool, tuple])
            self.assertTrue(all(isinstance(way, bool) for way in ways))

    def test_names_that_are_any_texts(self):
        for text, names in (("A 0 -", ("A",)), ("1 0 -", ("1",)), ("-- 0 -", ("--",)), ("-,a 0 -", ("-", "a")), ("a,- 0 -", ("a", "-")),
                            ("a,a 0 -", ("a", "a")), ("!?;,/ 0 -", ("!?;", "/")), ("abcdefghijk 0 -", ("abcdefghijk",))):
            self.assertEqual(parse_choice(text), (names, False, ()))

    def test_wrong_texts(self):
        for text in WRONG_CHOICES:
            with self.assertRaises(ParseError) as caught:
                parse_choice(text)
            self.assertIs(caught.exception.line, text)

    def test_any_steps(self):
        rng = random.Random(1)
        for _ in range(20):
            machine = any_machine(rng, 200)
            for state in machine.after(3):
                for step in machine.steps(state):
                    self.assertEqual(parse_choice(format_choice(step.choice)), step.choice)


def joined(*lines):
    return "\n".join([SMALL, *lines])


class CertifyTests(unittest.TestCase):
    def setUp(self):
        self.machine = Machine(parse_program(SMALL))

    def test_the_example(self):
        text = "source a level 1 gap 2 keep 1 enter 0 leave 0\nrun 1\nanswer a\nend\nbackground\nrun 1\nend"
        paper = certify(Machine(parse_program(text)), "a")
        console = Console()
        lines = ["load " + text.replace("\n", "; "), "tick a 0 -", "state", "time a", "recurrence a", "frames"]
        answers = [console.run(line) for line in lines]
        self.assertEqual(
            [paper.split("\n")[7:13], check(paper), check(paper.replace("time 1", "time 0")), answers[1:]],
            [["faults 0 0", "answers a", "time 1", "choices 1", "a 0 -", "table 3"], True, False,
             ["0 request a; 0 enter a; 1 answer a; 1 leave a", "main:0:1:0:- 0 0 0 x - - 0,0", "1", "1", "2"]],
        )

    def test_a_time(self):
        self.assertEqual(certify(self.machine, "a"), joined(
            "faults 0 0", "answers a", "time 1", "choices 1", "a 0 -", "table 3", "main:0:1:0:- 0 0 0 x - - 0,0 - 0",
            "main:0:1:0:- 0 0 1 x - - 0,0 - 0", "main:0:1:0:- 0 0 2 x - - 0,0 - 0"))

    def test_a_table_with_waits(self):
        machine = machine_of(source("a", 1, 1, "run 2; answer a", keep=2), background("run 1"))
        lines = certify(machine, "a").split("\n")
        at = lines.index("answers a")
        table = longest(machine, "a").table
        self.assertEqual(lines[:at], [*format_program(machine.program).split("\n"), "faults 0 0"])
        # In the second tick of a handler, when one request is kept, it waits for this tick and two handlers.
        self.assertEqual(lines[at + 1], "time 5")
        rows = sorted((text, -1 if ahead is None else ahead, number) for (text, ahead), number in table.items())
        place = lines.index(f"table {len(rows)}")
        self.assertEqual(lines[place + 1:], [f"{text} {'-' if ahead < 0 else ahead} {number}" for text, ahead, number in rows])
        self.assertEqual(lines[at + 2:place], [f"choices {len(longest(machine, 'a').choices)}",
                                              *[format_choice(one) for one in longest(machine, "a").choices]])
        self.assertGreater(len({ahead for text, ahead, number in rows}), 2)

    def test_the_order_of_the_numbers_ahead(self):
        # 0 and 1 ahead of one text, and none.
        machine = machine_of(source("a", 1, 1, "run 3; answer a", keep=3))
        lines = certify(machine, "a").split("\n")
        rows = [line.split(" ") for line in lines if line.startswith("main:0:1:0:-/a:0:1:0:- 1 2 0 ")]
        self.assertEqual([row[8] for row in rows], ["-", "0", "1"])

    def test_no_wait(self):
        self.assertEqual(certify(self.machine, (("lost", "a"), ("answer", "a"))), joined(
            "faults 0 0", "from lost a to answer a", "time 0", "choices 0", "table 3", "main:0:1:0:- 0 0 0 x - - 0,0 - 0",
            "main:0:1:0:- 0 0 1 x - - 0,0 - 0", "main:0:1:0:- 0 0 2 x - - 0,0 - 0"))

    def test_a_wait_of_no_ticks(self):
        self.assertEqual(certify(self.machine, (("answer", "a"), ("leave", "a"))), joined(
            "faults 0 0", "from answer a to leave a", "time 0", "choices 1", "a 0 -", "table 3", "main:0:1:0:- 0 0 0 x - - 0,0 - 0",
            "main:0:1:0:- 0 0 1 x - - 0,0 - 0", "main:0:1:0:- 0 0 2 x - - 0,0 - 0"))

    def test_without_an_end(self):
        found = longest(self.machine, (("request", "a"), ("lost", "a")))
        lines = certify(machine=self.machine, question=(("request", "a"), ("lost", "a")), limit=5000).split("\n")
        self.assertEqual(lines[7:], ["faults 0 0", "from request a to lost a", "endless", f"choices {len(found.choices)}",
                                     *[format_choice(one) for one in found.choices], f"ring {len(found.ring)}",
                                     *[format_choice(one) for one in found.ring]])
        self.assertTrue(found.ring)

    def test_faults(self):
        machine = Machine(parse_program(SMALL), overruns=2, early=3)
        for text in (certify(machine, "a"), certify_never(machine, ("timer", "a")), certify_depth(machine)):
            self.assertEqual(text.split("\n")[7], "faults 2 3")
        self.assertEqual(certify(Machine(parse_program(SMALL), early=1), "a"), joined(
            "faults 0 1", "answers a", "time 1", "choices 1", "a 0 -", "table 6", "main:0:1:0:- 0 0 0 x - - 0,0 - 0",
            "main:0:1:0:- 0 0 0 x - - 0,1 - 0", "main:0:1:0:- 0 0 1 x - - 0,0 - 0", "main:0:1:0:- 0 0 1 x - - 0,1 - 0",
            "main:0:1:0:- 0 0 2 x - - 0,0 - 0", "main:0:1:0:- 0 0 2 x - - 0,1 - 0"))
        lines = certify(Machine(parse_program(SMALL), overruns=1), "a").split("\n")
        self.assertEqual(lines[7:12], ["faults 1 0", "answers a", "time 2", "choices 2", "a 1 -"])
        self.assertEqual(lines[13], "table 8")
        # The handler goes on behind the overrun, with its wait and without one.
        self.assertEqual(lines[-2:], ["main:0:1:0:-/a:0:1:0:- 0 1 0 x - - 0,0 - 0", "main:0:1:0:-/a:0:1:0:- 0 1 0 x - - 0,0 0 1"])

    def test_never(self):
        states = ("states 3", "main:0:1:0:- 0 0 0 x - - 0,0", "main:0:1:0:- 0 0 1 x - - 0,0", "main:0:1:0:- 0 0 2 x - - 0,0")
        for pattern in (("lost", "a"), ("early", "a"), ("timer", "a"), ("raise", "a"), ("over", "a"), ("over", "main")):
            self.assertEqual(certify_never(self.machine, pattern), joined("faults 0 0", f"never {pattern[0]} {pattern[1]}", *states))
        for kind in ("request", "enter", "leave", "answer", "asked"):
            self.assertIsNone(certify_never(self.machine, (kind, "a")))
        machine = machine_of(source("a", 1, 2, "run 1"), task("job", "run 1"), task("other", "run 1"), background("run 1; post job"))
        for kind in ("post", "begin", "end", "full"):
            self.assertIsNotNone(certify_never(machine, (kind, "other"), 50000))
        for kind in ("post", "begin", "end"):
            self.assertIsNone(certify_never(machine, (kind, "job"), 50000))

    def test_never_asked(self):
        machine = machine_of(source("a", 1, 2, "run 1; answer a"), source("b", 2, 2, "run 1; answer b"))
        self.assertIsNone(certify_never(machine, ("asked", "b")))
        self.assertIsNotNone(certify_never(machine, ("timer", "b")))
        self.assertIsNone(certify_never(Machine(machine.program, early=1), ("early", "b")))
        self.assertIsNone(certify_never(Machine(machine.program, overruns=1), ("over", "main")))

    def test_depth(self):
        self.assertEqual(certify_depth(self.machine), joined(
            "faults 0 0", "depth 2", "choices 1", "a 0 -", "states 3", "main:0:1:0:- 0 0 0 x - - 0,0", "main:0:1:0:- 0 0 1 x - - 0,0",
            "main:0:1:0:- 0 0 2 x - - 0,0"))

    def test_the_order_of_the_states(self):
        machine = machine_of(source("a", 1, 12, "run 2; answer a", enter=1), background("run 12; run 2"))
        texts = [state.text for state in Reach(machine).walk()]
        self.assertEqual(texts, sorted(texts))
        for text in (certify_never(machine, ("lost", "a")), certify_depth(machine=machine, limit=5000)):
            self.assertEqual(text.split("\n")[-len(texts) - 1:], [f"states {len(texts)}", *texts])
        number, choices = most_frames(machine)
        lines = certify_depth(machine).split("\n")
        at = lines.index("depth 2")
        self.assertEqual(lines[at + 1:at + 2 + len(choices)], [f"choices {len(choices)}", *[format_choice(one) for one in choices]])

    def test_questions_and_patterns_come_first(self):
        for question in (None, 0, "", "x", "main", (), ("a",), ["a"], {}, object(), ("request", "a"), (("request", "a"),), (("request", "x"), ("answer", "a"))):
            for limit in (5000, 0, None, 1):
                with self.assertRaises(InvalidEvent) as caught:
                    certify(self.machine, question, limit)
                self.assertIs(caught.exception.value, question)
        for pattern in (*THINGS, "a", ("request", "x"), ("none", "a"), ["request", "a"], ("request", "a", "a"), (("request", "a"), ("answer", "a"))):
            for limit in (5000, 0, None, 1):
                with self.assertRaises(InvalidEvent) as caught:
                    certify_never(self.machine, pattern, limit)
                self.assertIs(caught.exception.value, pattern)

    def test_limits(self):
        machine = machine_of(source("a", 1, 5, "run 2; answer a"))
        states, pairs = len(Reach(machine)), len(all_pairs(machine, "a"))
        calls = ((lambda *more: certify(machine, "a", *more), pairs), (lambda *more: certify_never(machine, ("lost", "a"), *more), states),
                 (lambda *more: certify_never(machine, ("request", "a"), *more), states), (lambda *more: certify_depth(machine, *more), states))
        self.assertLess(states, pairs)
        for call, many in calls:
            for limit in (0, -1, 100001, True, None, "5000", [], object()):
                with self.assertRaises(InvalidNumber) as caught:
                    call(limit)
                self.assertIs(caught.exception.value, limit)
            self.assertEqual(call(many), call())
            with self.assertRaises(TooMany) as caught:
                call(many - 1)
            self.assertEqual(caught.exception.limit, many - 1)

    def test_the_default_limit(self):
        machine = machine_of(source("a", 1, 50, "run 1; answer a"), source("b", 1, 50, "run 1; answer b"), background("run 3"))
        for call in (lambda: certify(machine, "a"), lambda: certify_never(machine, ("request", "a")), lambda: certify_depth(machine)):
            with self.assertRaises(TooMany) as caught:
                call()
            self.assertEqual(caught.exception.limit, 5000)

    def test_any_machines(self):
        rng = random.Random(19)
        kinds = set()
        for _ in range(60):
            machine, question = any_machine(rng, 150), any_question(rng)
            text = certify(machine, question)
            self.assertIs(check(text), True)
            kinds.add("endless" if "\nendless\n" in text else "none" if "\ntime 0\nchoices 0\n" in text else "time")
            self.assertIs(check(certify_depth(machine)), True)
            for pattern in (("lost", "a"), ("full", "job"), ("over", "main"), ("asked", "b")):
                text = certify_never(machine, pattern)
                events = [event for state in Reach(machine).walk() for step in machine.steps(state) for event in step.events]
                asked = ("request", "early", "timer", "raise") if pattern[0] == "asked" else pattern[:1]
                happens = any(kind in asked and name == pattern[1] for offset, kind, name in events)
                self.assertEqual(text is None, happens)
                if text is not None:
                    self.assertIs(check(text), True)
                kinds.add(happens)
        self.assertEqual(kinds, {"endless", "none", "time", True, False})


if __name__ == "__main__":
    unittest.main()

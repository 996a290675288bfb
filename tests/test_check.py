"""Tests of whether certificates are right, and of what is raised for texts that are none."""

import random
import unittest

import second_checks
from drawn import THINGS, any_machine, any_question
from interruptruns.certificates import certify, certify_depth, certify_never, check
from interruptruns.errors import InvalidBody, InvalidEvent, InvalidName, InvalidNumber, InvalidProgram, ParseError, RunError
from interruptruns.formats import format_program, parse_program
from interruptruns.machine import Machine
from interruptruns.papers import is_table
from small import background, choice, machine_of, source, task

SMALL = "source a level 1 gap 2 keep 1 enter 0 leave 0\nrun 1\nanswer a\nend\nbackground\nrun 1\nend"
ONE = Machine(parse_program(SMALL))
TWO = machine_of(source("a", 1, 6, "run 2; answer a"), source("b", 2, 9, "run 3; answer b"))
LOST = machine_of(source("a", 1, 2, "run 1"))
BUSY = machine_of(source("a", 1, 2, "run 2; answer a"), source("b", 2, 2, "run 2; answer b"))


def parts_of(text):
    """The index of the line of the faults, and all lines."""
    lines = text.split("\n")
    return second_checks.program_lines(lines)[0], lines


def expected(text):
    """What check returns, or the class and the value of what it raises, by the second reading."""
    if not isinstance(text, str):
        return ParseError, None
    wrong = second_checks.wrong_line(text)
    if wrong is not None:
        return ParseError, wrong
    at, lines = parts_of(text)
    try:
        program = parse_program("\n".join(lines[:at]))
        overruns, early = lines[at].split(" ")[1:]
        machine = Machine(program, overruns=int(overruns), early=int(early))
    except RunError as error:
        return type(error), error.value
    words = lines[at + 1].split(" ")
    patterns = {"answers": [], "never": [words[1:3]], "from": [words[1:3], words[4:]], "depth": []}[words[0]]
    kinds = {"post": "t", "full": "t", "begin": "t", "end": "t", "over": "stm"}
    known = {"s": list(program.names), "t": [name for name, body in program.tasks], "m": ["main"]}
    for kind, name in patterns:
        if kind not in EVENTS or not any(name in known[one] for one in kinds.get(kind, "s")):
            return InvalidEvent, tuple(words[1:3]) if words[0] == "never" else (tuple(words[1:3]), tuple(words[4:]))
    if words[0] == "answers" and words[1] not in program.names:
        return InvalidEvent, words[1]
    return second_checks.is_right(machine, lines[at + 1:])


EVENTS = ("request", "early", "timer", "raise", "lost", "enter", "leave", "answer", "post", "full", "begin", "end", "over", "asked")


class CheckCase(unittest.TestCase):
    def check_text(self, text):
        """Compare with the second reading, and return it."""
        told = expected(text)
        if isinstance(told, bool):
            self.assertIs(check(text), told)
        else:
            with self.assertRaises(told[0]) as caught:
                check(text)
            self.assertIs(type(caught.exception), told[0])
            field = caught.exception.line if told[0] is ParseError else caught.exception.value
            self.assertEqual(field, told[1])
        return told

    def lines(self, text, right):
        """Check lines, and what the second reading tells of them."""
        text = "\n".join(text) if isinstance(text, list) else text
        self.assertIs(check(text), right)
        self.assertIs(self.check_text(text), right)

    def at(self, lines, word):
        """The index of the only line that begins with this word."""
        found = [at for at, line in enumerate(lines) if line.split(" ")[0] == word]
        self.assertEqual(len(found), 1)
        return found[0]

    def mutated(self, text, at, *more):
        """The lines, with these lines in the place of one, and the number of the block around it changed."""
        lines = text.split("\n") if isinstance(text, str) else list(text)
        head = at
        while lines[head].split(" ")[0] not in ("choices", "ring", "table", "states"):
            head -= 1
        word, number = lines[head].split(" ")
        if head != at:
            lines[head] = f"{word} {int(number) + len(more) - 1}"
        return lines[:at] + list(more) + lines[at + 1:]


class RightTests(CheckCase):
    def certificates(self):
        for machine in (ONE, TWO, LOST, BUSY, Machine(ONE.program, overruns=1, early=1), Machine(TWO.program, early=1)):
            for question in ("a", (("request", "a"), ("answer", "a")), (("answer", "a"), ("leave", "a")), (("lost", "a"), ("lost", "a")),
                             (("enter", "a"), ("lost", "a")), (("asked", "a"), ("asked", "a")), (("over", "main"), ("enter", "a"))):
                yield certify(machine, question)
            yield certify_depth(machine)
            for pattern in (("lost", "a"), ("timer", "a"), ("asked", "a"), ("over", "a"), ("early", "a")):
                text = certify_never(machine, pattern)
                if text is not None:
                    yield text

    def test_what_is_returned(self):
        kinds = set()
        for text in self.certificates():
            self.lines(text, True)
            self.assertIs(check(text=text), True)
            kinds.add(text.split("\n")[parts_of(text)[0] + 1].split(" ")[0])
            kinds.add("endless" if "\nendless\n" in text else "")
        self.assertEqual(kinds, {"answers", "from", "never", "depth", "endless", ""})

    def test_any_order_of_lines(self):
        rng = random.Random(3)
        for text in self.certificates():
            lines = text.split("\n")
            blocks = [at for at, line in enumerate(lines) if line.split(" ")[0] in ("table", "states")]
            for at in blocks:
                for rest in (lines[:at:-1], rng.sample(lines[at + 1:], len(lines) - at - 1)):
                    self.lines(lines[:at + 1] + rest, True)

    def test_a_time_without_a_table_of_its_own(self):
        # The table of another question, with more pairs than are there, and greater numbers for none.
        text = certify(ONE, "a")
        lines = text.split("\n")
        at = self.at(lines, "table")
        more = [line.rsplit(" ", 1)[0] + " 7" for line in lines[at + 1:]]
        self.lines(lines[:at + 1] + more, True)
        self.lines([*lines[:at], "table 4", *lines[at + 1:], "main:0:1:0:-/a:0:1:0:- 0 1 0 x - - 0,0 0 1"], True)
        self.lines([*lines[:at], "table 4", *lines[at + 1:], "main:0:1:0:-/a:0:1:0:- 0 1 0 x - - 0,0 0 0"], False)
        self.lines([*lines[:at], "table 4", *lines[at + 1:], "main:0:1:0:-/a:0:1:0:- 0 1 0 x - - 0,0 1 1"], False)


class TimeTests(CheckCase):
    def setUp(self):
        self.text = certify(TWO, "a")
        self.all = self.text.split("\n")
        self.table = self.at(self.all, "table")

    def test_the_time_one_more_or_less(self):
        self.assertIn("time 5", self.all)
        for number in (4, 6, 0, 50, 10 ** 29):
            self.lines(self.text.replace("time 5", f"time {number}"), False)

    def test_another_question(self):
        self.lines(self.text.replace("answers a", "answers b"), False)
        self.lines(self.text.replace("answers a", "from request a to answer a"), True)
        self.lines(self.text.replace("answers a", "from request b to answer a"), False)
        self.lines(self.text.replace("answers a", "from enter a to answer a"), True)
        self.lines(self.text.replace("answers a", "from enter b to answer b"), False)
        self.lines(self.text.replace("answers a", "from leave a to answer a"), False)

    def test_choices(self):
        at = self.at(self.all, "choices")
        rows = range(at + 1, self.table)
        self.assertGreater(len(rows), 2)
        for row in rows:
            told = [self.mutated(self.all, row), self.mutated(self.all, row, self.all[row], self.all[row]),
                    *[self.mutated(self.all, row, other) for other in ("b 0 -", "a 0 -", "a,b 0 -", "- 0 -", "b,a 0 -", "a,a 0 -", "x 0 -", "main 0 -",
                                                                      "- 1 -", "- 0 0", "- 0 1", "a 1 -", "A 0 -")]]
            for lines in told:
                # Some other choices lead to the same time.
                self.assertIn(self.check_text("\n".join(lines)), (True, False))
        for row in rows[:-1]:
            lines = list(self.all)
            lines[row], lines[row + 1] = lines[row + 1], lines[row]
            self.check_text("\n".join(lines))
        self.lines(self.mutated(self.all, rows[0]), False)
        self.lines(self.mutated(self.all, rows[0], "- 1 -"), False)
        self.lines(self.mutated(self.all, rows[0], "- 0 0"), False)
        self.lines([*self.all[:at], "choices 0", *self.all[self.table:]], False)

    def test_a_number_of_the_table(self):
        told = set()
        for row in range(self.table + 1, len(self.all)):
            *words, ahead, number = self.all[row].split(" ")
            for other in (int(number) - 1, int(number) + 1):
                if other >= 0:
                    right = self.check_text("\n".join(self.mutated(self.all, row, " ".join([*words, ahead, str(other)]))))
                    told.add((ahead == "-", other < int(number), right))
                    if ahead == "-" or other < int(number):
                        # Those of pairs without a wait mean nothing; all others are the least ones.
                        self.assertIs(right, ahead == "-")
        self.assertIn((False, False, False), told)

    def test_pairs(self):
        for row in range(self.table + 1, len(self.all)):
            line = self.all[row]
            self.lines(self.mutated(self.all, row), False)
            self.lines(self.mutated(self.all, row, line, line), False)
            self.lines(self.mutated(self.all, row, line, line.rsplit(" ", 1)[0] + " 40"), False)
        first = self.all[self.table + 1]
        for other in ("main:1:1:0:- 0,0 0,0 0,0 x,x - - 0,0", "main:0:2:0:- 0,0 0,0 0,0 x,x - - 0,0", "main:0:1:0:- 0 0 2 x - - 0,0",
                      "main:0:1:0:- 0,0 0,0 7,0 x,x - - 0,0", "a b c d e f g h", "? ? ? ? ? ? ? ?", "main:0:1:0:- 0,0 0,0 00,0 x,x - - 0,0"):
            self.lines(self.mutated(self.all, self.table + 1, first, f"{other} - 0"), False)
            self.lines(self.mutated(self.all, self.table + 1, first, f"{other} 0 0"), False)

    def test_without_the_first_state(self):
        machine = machine_of("counter c 1", source("a", 1, 2, "run 1; answer a"), background("run 1; add c"))
        lines = certify(machine, "a").split("\n")
        self.lines(lines, True)
        # No step leads there.
        self.lines(self.mutated(lines, lines.index(f"{machine.start.text} - 0")), False)

    def test_time_0_without_choices(self):
        question = (("lost", "a"), ("answer", "a"))
        text = certify(ONE, question)
        self.assertIn("time 0\nchoices 0", text)
        self.lines(text, True)
        self.lines(text.replace("time 0\nchoices 0", "time 0\nchoices 1\na 0 -"), False)
        self.lines(text.replace("time 0\nchoices 0", "time 1\nchoices 0"), False)
        # All waits of this one end in the step in which they begin.
        text = certify(ONE, (("answer", "a"), ("leave", "a")))
        self.assertIn("time 0\nchoices 1\na 0 -", text)
        self.lines(text, True)
        self.lines(text.replace("choices 1\na 0 -", "choices 0"), False)
        self.lines(text.replace("choices 1\na 0 -", "choices 1\n- 0 -"), False)

    def test_time_0_where_a_wait_begins_in_a_step_from_a_state_that_no_run_reaches(self):
        text = certify(ONE, (("lost", "a"), ("answer", "a")))
        lines = text.split("\n")
        at = self.at(lines, "table")
        # A request is kept there, so that the next one is lost.
        kept = "main:0:1:0:- 1 1 2 x - - 0,0"
        self.lines([*lines[:at], "table 4", *lines[at + 1:], f"{kept} - 0"], False)
        # Here it ends in the same step and needs no time, so the table is one; but it begins.
        timed = "main:0:1:0:- 0 0 2 0 - - 0,0"
        lines = certify(ONE, (("timer", "a"), ("enter", "a"))).split("\n")
        self.lines(lines, True)
        self.lines([*lines[:at], "table 4", *lines[at + 1:], f"{timed} - 0"], False)
        self.lines([*lines[:at], "table 4", *lines[at + 1:], f"{timed} 3 1"], False)
        pairs = {(line.rsplit(" ", 2)[0], None): 0 for line in [*lines[at + 1:], f"{timed} - 0"]}
        self.assertTrue(is_table(ONE, (("timer", "a"), ("enter", "a")), pairs, 0))

    def test_pairs_that_can_not_be_there(self):
        lines = certify(ONE, "a").split("\n")
        at = self.at(lines, "table")
        # A request is kept ahead of the tick: it enters and is answered, and another one is lost.
        kept = "main:0:1:0:- 1 1 2 x - - 0,0"
        for more, right in (((" - 0",), True), ((" - 9",), True), ((" 0 1",), True), ((" 0 0",), False), ((" - 0", " 0 1"), True), ((" 1 1",), False)):
            self.lines([*lines[:at], f"table {3 + len(more)}", *lines[at + 1:], *[kept + one for one in more]], right)
        # Five are owed: no pair of the state behind it is there, and only the one with a wait that ends needs none.
        owed = "main:0:1:0:-/a:0:1:0:- 0 5 1 x - - 0,0"
        for more, right in ((" 0 1", True), (" 0 0", False), (" 1 9", False), (" - 0", False)):
            self.lines([*lines[:at], "table 4", *lines[at + 1:], owed + more], right)
        # One is owed and not kept, so the next one has it ahead until a third one comes, perhaps never.
        rows, waiting = set(lines[at + 1:]), ["main:0:1:0:- 0 1 2 x - - 0,0"]
        while waiting:
            text = waiting.pop()
            if f"{text} - 0" not in rows:
                rows.add(f"{text} - 0")
                waiting += [step.state.text for step in ONE.steps(second_checks.state_of(ONE, text))]
        self.lines([*lines[:at], f"table {len(rows)}", *sorted(rows)], False)


class EndlessTests(CheckCase):
    def setUp(self):
        self.text = certify(BUSY, "a")
        self.all = self.text.split("\n")
        self.choices, self.ring = self.at(self.all, "choices"), self.at(self.all, "ring")
        self.assertIn("endless", self.all)
        self.assertGreater(len(self.all) - self.ring, 2)

    def test_choices_and_ring(self):
        told = set()
        for row in (*range(self.choices + 1, self.ring), *range(self.ring + 1, len(self.all))):
            line = self.all[row]
            for more in ((), (line, line), ("- 0 -",), ("a 0 -",), ("b 0 -",), ("a,b 0 -",), ("- 1 -",), ("- 0 1",), ("x 0 -",)):
                told.add(self.check_text("\n".join(self.mutated(self.all, row, *more))))
        self.assertEqual(told, {True, False})

    def test_the_ring_turned(self):
        rows = self.all[self.ring + 1:]
        told = []
        for at in range(len(rows)):
            told.append(self.check_text("\n".join([*self.all[:self.ring + 1], *rows[at:], *rows[:at]])))
        self.assertIs(told[0], True)
        self.assertIn(False, told)

    def test_rings_that_are_longer_and_empty(self):
        rows = self.all[self.ring + 1:]
        self.lines([*self.all[:self.ring], f"ring {2 * len(rows)}", *rows, *rows], True)
        self.lines([*self.all[:self.ring], "ring 0"], False)
        self.lines([*self.all[:self.choices], f"choices {self.ring - self.choices - 1 + len(rows)}", *self.all[self.choices + 1:self.ring],
                    *rows, *self.all[self.ring:]], True)
        self.lines([*self.all[:self.choices], "choices 0", *self.all[self.ring:]], False)

    def test_waits_that_end(self):
        # b comes again and again, and is answered each time.
        lines = self.text.replace("answers a", "answers b").split("\n")
        self.assertIs(self.check_text("\n".join(lines)), False)
        self.lines(self.text.replace("answers a", "from request a to answer a"), True)
        self.lines(self.text.replace("answers a", "from request a to answer b"), False)

    def test_another_number_ahead(self):
        # Two requests of the beginning stay ahead of all others. Two ticks lead to the same state, and the
        # wait goes on, but with one less ahead.
        machine = machine_of("counter c 1", source("a", 1, 2, "run 2; answer a", keep=3), background("when c; or; raise a; raise a; add c; end; run 1"))
        head = [*format_program(machine.program).split("\n"), "faults 0 0"]
        tail = ["endless", "choices 2", "a 0 -", "- 0 -", "ring 2", "a 0 -", "- 0 -"]
        self.lines([*head, "answers a", *tail], False)
        self.lines([*head, "from request a to lost a", *tail], True)
        self.lines([*head, "from request a to answer a", *tail], False)
        run = second_checks.run_of(machine, tail[2:4])
        self.assertEqual(run.more([choice("a"), choice()]).last, run.last)


class NeverAndDepthTests(CheckCase):
    def setUp(self):
        self.never = certify_never(TWO, ("lost", "a")).split("\n")
        self.depth = certify_depth(TWO).split("\n")

    def test_states(self):
        for lines in (self.never, self.depth):
            at = self.at(lines, "states")
            for row in (at + 1, at + 2, len(lines) - 1, lines.index(TWO.start.text)):
                self.lines(self.mutated(lines, row), False)
                self.lines(self.mutated(lines, row, lines[row], lines[row]), False)
                for other in ("main:0:2:0:- 0,0 0,0 0,0 x,x - - 0,0", "main:0:1:0:- 0 0 2 x - - 0,0", "main:0:1:0:- 0,0 0,0 0,0 x,x - - 0,1",
                              "a b c d e f g h", "- - - - - - - -"):
                    self.lines(self.mutated(lines, row, lines[row], other), False)
            self.lines([*lines[:at], "states 0"], False)

    def test_without_the_first_state(self):
        machine = machine_of("counter c 1", source("a", 1, 2, "run 1; answer a"), background("run 1; add c"))
        for text in (certify_never(machine, ("lost", "a")), certify_depth(machine)):
            lines = text.split("\n")
            self.lines(lines, True)
            self.lines(self.mutated(lines, lines.index(machine.start.text)), False)

    def closed_with(self, machine, lines, text):
        """The lines with a further state, and all that are behind it."""
        at = self.at(lines, "states")
        texts, more = set(lines[at + 1:]), [text]
        while more:
            state = more.pop()
            if state not in texts:
                texts.add(state)
                more += [step.state.text for step in machine.steps(second_checks.state_of(machine, state))]
        self.assertGreater(len(texts), len(lines) - at - 1)
        return [*lines[:at], f"states {len(texts)}", *sorted(texts)]

    def test_closed_states_that_can_not_be_there(self):
        for pattern in (("timer", "a"), ("over", "main"), ("early", "b")):
            lines = certify_never(TWO, pattern).split("\n")
            self.lines(self.closed_with(TWO, lines, "main:0:1:0:- 0,0 1,2 6,9 x,x - - 0,0"), True)
        self.lines(self.closed_with(TWO, self.depth, "main:0:1:0:- 0,0 1,2 6,9 x,x - - 0,0"), True)

    def test_an_event_in_a_step_from_a_state_that_no_run_reaches(self):
        for pattern, text in ((("timer", "a"), "main:0:1:0:- 0,0 0,0 6,9 0,x - - 0,0"), (("lost", "a"), "main:0:1:0:- 0,0 6,0 6,9 x,x - - 0,0"),
                              (("over", "main"), "main:0:1:0:- 0,0 0,0 6,9 x,x - - 1,0"), (("early", "b"), "main:0:1:0:- 0,0 0,0 6,0 x,x - - 0,1")):
            lines = certify_never(TWO, pattern).split("\n")
            self.lines(lines, True)
            self.lines(self.closed_with(TWO, lines, text), False)

    def test_a_pattern_that_happens(self):
        text = "\n".join(self.never)
        for pattern in ("request a", "enter b", "asked b", "answer a", "leave b"):
            self.lines(text.replace("never lost a", f"never {pattern}"), False)
        for pattern in ("lost b", "timer a", "raise b", "over main", "early a"):
            self.lines(text.replace("never lost a", f"never {pattern}"), True)

    def test_the_depth_one_more_or_less(self):
        text = "\n".join(self.depth)
        self.assertIn("depth 3\nchoices 2\na 0 -\nb 0 -\n", text)
        for number in (0, 1, 2, 4, 5, 10 ** 29):
            self.lines(text.replace("depth 3", f"depth {number}"), False)
        self.lines(text.replace("depth 3\nchoices 2\na 0 -\nb 0 -", "depth 2\nchoices 1\na 0 -"), False)

    def test_the_choices_of_a_depth(self):
        text = "\n".join(self.depth)
        right = "choices 2\na 0 -\nb 0 -"
        for other, told in (("choices 0", False), ("choices 1\na 0 -", False), ("choices 3\n- 0 -\na 0 -\nb 0 -", True), ("choices 2\nb 0 -\na 0 -", False),
                            ("choices 3\na 0 -\nb 0 -\n- 0 -", True), ("choices 5\na 0 -\nb 0 -\n- 0 -\n- 0 -\n- 0 -", False),
                            ("choices 2\na 0 -\nb 1 -", False), ("choices 2\na 0 -\na 0 -", False), ("choices 2\na 0 -\nx 0 -", False)):
            self.lines(text.replace(right, other), told)

    def test_a_step_with_a_greater_depth_from_a_state_that_no_run_reaches(self):
        # A handler of one tick ends before another one can enter.
        machine = machine_of(source("a", 1, 9, "run 1; answer a", leave=1), source("b", 2, 9, "mask 3; run 1; answer b"), source("c", 3, 9, "run 1; answer c"))
        lines = certify_depth(machine, 100000).split("\n")
        self.assertIn("depth 3", lines)
        self.lines(lines, True)
        more = self.closed_with(machine, lines, "main:0:1:0:-/a:out:1:0:-/b:0:1:0:- 0,0,1 1,1,1 0,0,0 x,x,x - - 0,0")
        self.lines(more, False)
        more[lines.index("depth 3")] = "depth 4"
        self.lines(more, False)


class ParseErrorTests(CheckCase):
    CERTIFICATES = (certify(BUSY, "a"), certify(ONE, (("request", "a"), ("answer", "a"))), certify(ONE, "a"),
                    certify_never(ONE, ("lost", "a")), certify_depth(ONE))

    def wrong(self, line, text):
        with self.assertRaises(ParseError) as caught:
            check(text)
        self.assertEqual(caught.exception.line, line)
        self.assertEqual(self.check_text(text), (ParseError, line))

    def test_what_is_no_text(self):
        for thing in THINGS:
            if not isinstance(thing, str):
                with self.assertRaises(ParseError) as caught:
                    check(thing)
                self.assertIsNone(caught.exception.line)

    def test_short_texts(self):
        self.wrong(0, "")
        self.wrong(1, "background")
        self.wrong(0, "\n")
        self.wrong(0, "a")
        self.wrong(7, SMALL)
        self.wrong(7, SMALL + "\n")
        self.wrong(8, SMALL + "\nfaults 0 0")
        self.wrong(8, SMALL + "\nfaults 0 0\n")
        self.wrong(9, SMALL + "\nfaults 0 0\nanswers a")
        self.wrong(10, SMALL + "\nfaults 0 0\nanswers a\nendless")
        self.wrong(11, SMALL + "\nfaults 0 0\nanswers a\nendless\nchoices 0")
        self.wrong(11, SMALL + "\nfaults 0 0\nanswers a\ntime 0\nchoices 0")
        self.wrong(11, SMALL + "\nfaults 0 0\nanswers a\ntime 0\nchoices 0\nring 0")
        self.wrong(11, SMALL + "\nfaults 0 0\nanswers a\nendless\nchoices 0\ntable 0")
        self.wrong(12, SMALL + "\nfaults 0 0\nanswers a\nendless\nchoices 0\nring 0\n")
        self.lines(SMALL + "\nfaults 0 0\nanswers a\nendless\nchoices 0\nring 0", False)
        self.lines(SMALL + "\nfaults 0 0\nanswers a\ntime 0\nchoices 0\ntable 0", False)
        self.lines(SMALL + "\nfaults 0 0\nnever lost a\nstates 0", False)
        self.lines(SMALL + "\nfaults 0 0\ndepth 1\nchoices 0\nstates 0", False)

    def test_lines_of_faults_and_questions(self):
        for wrong in ("faults", "faults 0", "faults 0 0 0", "faults  0 0", "faults 0 0 ", " faults 0 0", "Faults 0 0", "faults 00 0", "faults 0 01", "faults -1 0",
                      "faults +1 0", "faults 0 " + "1" * 31, "faults a 0", "faults - 0", "faults 0,0", "faults x 0", "", "answers a", "source", "end"):
            self.wrong(7, f"{SMALL}\n{wrong}\nanswers a\ntime 0\nchoices 0\ntable 0")
        for wrong in ("answers", "answers a b", "answers  a", "answers a ", "answer a", "from", "from request a answer a", "from request a to answer",
                      "from request a to answer a b", "from request to answer a", "from  a to answer a", "from request a To answer a", "to answer a from request a",
                      "", "never", "depth", "time 0", "faults 0 0", "states 0", "Answers a", "from request a to answer  a"):
            self.wrong(8, f"{SMALL}\nfaults 0 0\n{wrong}\ntime 0\nchoices 0\ntable 0")
        for wrong in ("never", "never lost", "never lost a b", "never  lost a", "never lost a ", "Never lost a", "never  a"):
            self.wrong(8, f"{SMALL}\nfaults 0 0\n{wrong}\nstates 0")
        for wrong in ("depth", "depth ", "depth 1 1", "depth 01", "depth -1", "depth a", "depth " + "1" * 31, "depth -", "Depth 1"):
            self.wrong(8, f"{SMALL}\nfaults 0 0\n{wrong}\nchoices 0\nstates 0")
        for wrong in ("time", "time 1 1", "time 01", "time -1", "time +1", "time - ", "time -", "time x", "time " + "1" * 31, "endless 0", "endless ", " endless", "Endless",
                      "", "time  1", "time None", "choices 0"):
            self.wrong(9, f"{SMALL}\nfaults 0 0\nanswers a\n{wrong}\nchoices 0\ntable 0")

    def test_heads_of_blocks(self):
        for text in self.CERTIFICATES:
            lines = text.split("\n")
            for at, line in enumerate(lines):
                word, *rest = line.split(" ")
                if word in ("choices", "ring", "table", "states"):
                    number = int(rest[0])
                    for wrong in (word, f"{word} ", f"{word}  {number}", f"{word} {number} 0", f"{word} 0{number}", f"{word} -{number}", f"{word} +{number}",
                                  f"{word} {'1' * 31}", f"{word} x", f"{word.upper()} {number}", f"{word}s {number}", f" {word} {number}", f"{word} {number} ", ""):
                        self.wrong(at, "\n".join([*lines[:at], wrong, *lines[at + 1:]]))
                    # Told longer than it is, its next line is that of the next block, or missing.
                    self.wrong(at + number + 1, "\n".join([*lines[:at], f"{word} {number + 1}", *lines[at + 1:]]))
                    self.wrong(at + number + 1, "\n".join([*lines[:at], f"{word} {10 ** 29}", *lines[at + 1:]]))
                    if number:
                        self.wrong(at + number, "\n".join([*lines[:at], f"{word} {number - 1}", *lines[at + 1:]]))

    def test_choices(self):
        lines = self.CERTIFICATES[0].split("\n")
        ring = self.at(lines, "ring")
        for at in (ring - 1, ring + 1, len(lines) - 1):
            for wrong in ("", "-", "- 0", "- 0 - -", "-  0 -", "- 0 ", " 0 -", "- 2 -", "- 00 -", "- 01 -", "- - -", "- 0 2", "- 0 -1", "- 0 1-", ", 0 -", "a, 0 -",
                          ",a 0 -", "a,,b 0 -", "a b 0 -", "- 0 x", "- x -", "- 0 --", "table 0", "- 0 1 1"):
                self.wrong(at, "\n".join([*lines[:at], wrong, *lines[at + 1:]]))
            for other in ("x 0 -", "-- 0 -", "-,a 0 -", "1 0 -", "; 1 0101", "main 0 1"):
                self.assertIs(self.check_text("\n".join([*lines[:at], other, *lines[at + 1:]])), False)

    def test_tables(self):
        lines = self.CERTIFICATES[2].split("\n")
        at = self.at(lines, "table") + 2
        text = lines[at].rsplit(" ", 2)[0]
        for wrong in (text, f"{text} -", f"{text} - 0 0", f"{text}  0", f"{text} - ", f"{text} - -", f"{text} x 0", f"{text} 00 0", f"{text} 0 00", f"{text} -1 0",
                      f"{text} - -1", f"{text} {'1' * 31} 0", f"{text} 0 {'1' * 31}", f" {text} - 0", f"{text} - 0 ", text.replace(" 0 ", "  ", 1) + " - 0",
                      text[5:] + " - 0 x", "", "- 0"):
            self.wrong(at, "\n".join([*lines[:at], wrong, *lines[at + 1:]]))
        for other in ("a b c d e f g h - 0", "1 1 1 1 1 1 1 1 1 1", "- - - - - - - - - 0", f"x{text} {'1' * 30} {'1' * 30}"):
            self.assertIs(self.check_text("\n".join([*lines[:at], other, *lines[at + 1:]])), False)

    def test_states(self):
        for text in self.CERTIFICATES[3:]:
            lines = text.split("\n")
            at = self.at(lines, "states") + 2
            for wrong in (lines[at] + " -", lines[at] + " ", " " + lines[at], lines[at].rsplit(" ", 1)[0], lines[at].replace(" ", "  ", 1), "", "a", "a b c d e f g",
                          "a b c d e f g h i", "a b c d  f g h"):
                self.wrong(at, "\n".join([*lines[:at], wrong, *lines[at + 1:]]))
            for other in ("a b c d e f g h", "- - - - - - - -", "main:9:9:9:9 0 0 0 x - - 0,0", "0 0 0 0 0 0 0 0"):
                self.assertIs(self.check_text("\n".join([*lines[:at], other, *lines[at + 1:]])), False)

    def test_a_line_too_many_or_missing(self):
        for text in self.CERTIFICATES:
            lines = text.split("\n")
            for more in ("", "-", "end", lines[-1], "answers a"):
                self.wrong(len(lines), text + "\n" + more)
            self.wrong(len(lines) - 1, "\n".join(lines[:-1]))
            for many in range(len(lines)):
                self.wrong(many, "\n".join(lines[:many]) if many else "x")
            for at in range(len(lines) - 1):
                self.check_text("\n".join(lines[:at] + lines[at + 1:]))

    def test_lines_of_the_program(self):
        text = self.CERTIFICATES[2]
        for at, wrong in ((0, "source a level 1 gap 2 keep 1 enter 0"), (0, "Source a level 1 gap 2 keep 1 enter 0 leave 0"), (1, "run"), (1, "run 01"), (2, "answer"),
                          (2, "or"), (3, "ends"), (4, "task"), (5, "runs 1"), (6, "END")):
            lines = text.split("\n")
            lines[at] = wrong
            self.wrong(at, "\n".join(lines))

    def test_any_changes_of_lines(self):
        rng = random.Random(6)
        told = {}
        machines = [ONE, BUSY, LOST] + [any_machine(rng, 60) for _ in range(12)]
        for _ in range(900):
            machine = rng.choice(machines)
            question = rng.choice(["a", any_question(rng)]) if "b" in machine.program.names and machine.program.tasks else "a"
            text = rng.choice((lambda: certify(machine, question), lambda: certify_depth(machine), lambda: certify_never(machine, ("lost", "a"))))()
            if text is None:
                continue
            lines = text.split("\n")
            for _ in range(rng.choice((1, 1, 1, 2))):
                self.change(rng, lines)
            found = self.check_text("\n".join(lines))
            kind = found if isinstance(found, bool) else found[0].__name__
            told[kind] = told.get(kind, 0) + 1
        self.assertGreater(min(told[kind] for kind in (True, False, "ParseError", "InvalidEvent")), 4, told)

    def change(self, rng, lines):
        at = rng.choice((rng.randrange(len(lines)), max(0, len(lines) - 1 - rng.randrange(12)), parts_of("\n".join(lines))[0] % len(lines)))
        at = min(at + rng.choice((0, 0, 1, 2, 3)), len(lines) - 1)
        kind = rng.choice(("out", "twice", "moved", "word", "word", "word", "more", "space"))
        words = lines[at].split(" ")
        if kind == "out" and len(lines) > 1:
            del lines[at]
        elif kind == "twice":
            lines.insert(at, lines[at])
        elif kind == "moved":
            lines.insert(rng.randrange(len(lines)), lines.pop(at))
        elif kind == "word":
            place = rng.randrange(len(words))
            words[place] = rng.choice(("0", "1", "2", "3", "-", "a", "b", "x", "01", "lost", "enter", "over", "job", "main", "end", ""))
            lines[at] = " ".join(words)
        elif kind == "more":
            lines[at] += rng.choice((" 0", " -", " a", " "))
        elif kind == "space":
            lines[at] = lines[at].replace(" ", "  ", 1)


class OrderTests(CheckCase):
    REST = "\nfaults 9 8\nanswers x\ntime 0\nchoices 0\ntable 0"

    def raised(self, error, value, text):
        with self.assertRaises(error) as caught:
            check(text)
        self.assertIs(type(caught.exception), error)
        self.assertEqual(caught.exception.line if error is ParseError else caught.exception.value, value)
        self.assertEqual(self.check_text(text), (error, value))

    def test_when_several_apply(self):
        wrong = SMALL.replace("source a", "source A").replace("gap 2", "gap 51").replace("answer a", "answer b")
        self.raised(ParseError, 11, wrong + self.REST.replace("choices 0", "choices 1"))
        self.raised(InvalidName, "A", wrong + self.REST)
        wrong = wrong.replace("source A", "source a")
        self.raised(InvalidNumber, 51, wrong + self.REST)
        wrong = wrong.replace("gap 51", "gap 2").replace("run 1\nanswer", "run 21\nanswer")
        self.raised(InvalidBody, (("run", 21), ("answer", "b")), wrong + self.REST)
        wrong = wrong.replace("run 21", "run 1")
        self.raised(InvalidProgram, (("run", 1), ("answer", "b")), wrong + self.REST)
        self.raised(InvalidNumber, 9, SMALL + self.REST)
        self.raised(InvalidNumber, 8, SMALL + self.REST.replace("9", "3"))
        self.raised(InvalidNumber, 4, SMALL + self.REST.replace("9 8", "0 4"))
        self.raised(InvalidEvent, "x", SMALL + self.REST.replace("9 8", "3 3"))

    def test_questions(self):
        right = SMALL + self.REST.replace("9 8", "0 0")
        for name in ("x", "main", "A", "request", "0", "-"):
            self.raised(InvalidEvent, name, right.replace("answers x", f"answers {name}"))
        for first, last in ((("none", "a"), ("answer", "a")), (("request", "b"), ("answer", "a")), (("request", "a"), ("post", "a")), (("over", "x"), ("lost", "a"))):
            self.raised(InvalidEvent, (first, last), right.replace("answers x", f"from {' '.join(first)} to {' '.join(last)}"))
            self.raised(InvalidEvent, (last, first), right.replace("answers x", f"from {' '.join(last)} to {' '.join(first)}"))
        for question in ("answers x", "from lost a to lost x"):
            value = "x" if question == "answers x" else (("lost", "a"), ("lost", "x"))
            text = f"{SMALL}\nfaults 0 0\n{question}\n"
            self.raised(InvalidEvent, value, text + "endless\nchoices 1\nx 0 -\nring 0")
            self.raised(InvalidEvent, value, text + "time 0\nchoices 1\nx 0 -\ntable 0")
            # The same pair twice is not right, but the question comes first.
            self.raised(InvalidEvent, value, text + "time 0\nchoices 0\ntable 2\na b c d e f g h - 0\na b c d e f g h - 0")

    def test_patterns(self):
        for kind, name in (("none", "a"), ("request", "b"), ("post", "a"), ("over", "x"), ("asked", "main"), ("request", "main")):
            for states in ("states 0", "states 1\na b c d e f g h", "states 2\na b c d e f g h\na b c d e f g h"):
                self.raised(InvalidEvent, (kind, name), f"{SMALL}\nfaults 0 0\nnever {kind} {name}\n{states}")
        self.raised(InvalidNumber, 4, f"{SMALL}\nfaults 4 0\nnever none a\nstates 0")
        self.raised(InvalidNumber, 5, f"{SMALL}\nfaults 0 5\ndepth 1\nchoices 0\nstates 0")

    def test_tasks_and_counters(self):
        machine = machine_of("counter c 2", source("a", 1, 4, "run 1; post job; answer a"), task("job", "run 1; take c"), background("run 1; add c"))
        for text in (certify(machine, (("post", "job"), ("end", "job"))), certify_never(machine, ("full", "job")), certify_depth(machine),
                     certify_never(machine, ("over", "job"))):
            self.lines(text, True)
            self.raised(InvalidProgram, "c", text.replace("task job", "task c"))
            self.raised(InvalidProgram, (("c", 6),), text.replace("counter c 2", "counter c 6"))


if __name__ == "__main__":
    unittest.main()

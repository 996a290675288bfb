"""Tests of parse_program for wrong texts."""

import unittest

from interruptruns.errors import (InvalidBody, InvalidName, InvalidNumber, InvalidProgram,
                                  ParseError)
from interruptruns.formats import format_program, parse_program
from samples import FULL, any_program, wrong_line

SOURCE = "source a level 1 gap 1 keep 1 enter 0 leave 0"
# Lines that stand somewhere, and some that stand nowhere.
LINES = ("counter b 1", SOURCE, "task b", "background", "end", "or", "run 1", "either", "when b",
         "loop 1", "mask 1", "unmask", "answer a", "raise a", "arm a 1", "post b", "add b",
         "take b", "", " ", "walk 1", "N", "NAME", "main")


def small(head="", handler="run 1\n", behind="", background="run 1\n"):
    return f"{head}{SOURCE}\n{handler}end\n{behind}background\n{background}end"


class Checks(unittest.TestCase):
    def refuse(self, index, text):
        with self.assertRaises(ParseError) as caught:
            parse_program(text)
        self.assertEqual(caught.exception.line, index, text)
        self.assertNotIsInstance(caught.exception.line, bool)

    def agree(self, text):
        """Check that the line in ParseError, if any, is the one of the other reading."""
        try:
            parse_program(text)
            found = None
        except ParseError as error:
            found = error.line
        except (InvalidName, InvalidNumber, InvalidBody, InvalidProgram):
            found = None
        self.assertEqual(found, wrong_line(text), text)


class LineTests(Checks):
    def test_what_is_no_string(self):
        for wrong in (None, True, 0, 1.5, b"background", ["background"], (), {}, object(), str):
            self.refuse(None, wrong)
        with self.assertRaises(ParseError):
            parse_program(text=None)

    def test_the_empty_text(self):
        self.refuse(0, "")
        self.refuse(0, "\n")
        self.refuse(0, " ")

    def test_empty_lines(self):
        lines = small().split("\n")
        for at in range(len(lines) + 1):
            self.refuse(at, "\n".join([*lines[:at], "", *lines[at:]]))
        self.refuse(6, small() + "\n")
        self.refuse(6, small() + "\n\n")

    def test_missing_lines(self):
        lines = FULL.split("\n")
        for many in range(1, len(lines)):
            self.refuse(many, "\n".join(lines[:many]))

    def test_lines_behind_the_end(self):
        lines = small().split("\n")
        for line in (*LINES, *lines):
            self.refuse(6, "\n".join([*lines, line]))
            self.refuse(6, "\n".join([*lines, line, line]))

    def test_parts_left_out(self):
        self.refuse(3, f"{SOURCE}\nrun 1\nend")
        self.refuse(1, "counter b 1")
        self.refuse(3, "task b\nrun 1\nend")
        self.refuse(1, "background")
        self.refuse(1, SOURCE)

    def test_parts_in_another_order(self):
        self.refuse(3, small(behind="counter b 1\n"))
        self.refuse(3, small(head="task b\nrun 1\nend\n"))
        self.refuse(6, small(behind="task b\nrun 1\nend\ncounter b 1\n"))
        self.refuse(6, small() + "\n" + small())
        self.refuse(2, "background\nend\n" + SOURCE)

    def test_parts_inside_of_bodies(self):
        for line in ("counter b 1", SOURCE, "task b", "background"):
            self.refuse(2, small(handler=f"run 1\n{line}\n"))
            self.refuse(5, small(background=f"run 1\n{line}\n"))
            self.refuse(3, small(handler=f"run 1\neither\n{line}\nor\nend\n"))

    def test_statements_outside_of_bodies(self):
        for line in LINES[4:18]:
            self.refuse(0, small(head=line + "\n"))
            self.refuse(3, small(behind=line + "\n"))

    def test_or_and_end(self):
        self.refuse(1, small(handler="or\n"))
        self.refuse(2, small(handler="either\nend\n"))
        self.refuse(2, small(handler="when b\nend\n"))
        self.refuse(3, small(handler="either\nrun 1\nend\n"))
        self.refuse(3, small(handler="either\nor\nor\nend\n"))
        self.refuse(3, small(handler="when b\nor\nor\nend\n"))
        self.refuse(2, small(handler="loop 1\nor\nend\n"))
        self.refuse(3, small(handler="loop 1\nrun 1\nor\nend\n"))
        self.refuse(7, small(background="either\nor\n"))

    def test_words_and_spaces(self):
        right = {
            "counter b 1": lambda line: small(head=line + "\n"),
            SOURCE: lambda line: f"{line}\nrun 1\nend\nbackground\nrun 1\nend",
            "task b": lambda line: f"{line}\nrun 1\nend\nbackground\nrun 1\nend",
            "background": lambda line: f"{line}\nrun 1\nend",
        }
        for line, make in right.items():
            self.spoil(line, 0, make)
        for line in ("run 1", "mask 1", "unmask", "answer a", "raise a", "arm a 1", "post b",
                     "add b", "take b", "end"):
            self.spoil(line, 1, lambda wrong: small(handler=wrong + "\n"))
        for line, rest in (("either", "or\nend\n"), ("when b", "or\nend\n"), ("loop 1", "end\n")):
            self.spoil(line, 1, lambda wrong, rest=rest: small(handler=f"{wrong}\n{rest}"))
        self.spoil("or", 2, lambda wrong: small(handler=f"either\n{wrong}\nend\n"))

    def spoil(self, line, index, make):
        """Check the text with the line written wrongly in many ways."""
        words = line.split(" ")
        self.agree(make(line))
        wrong = [line + " ", " " + line, line + " 1", line + " b", "x" + line, line.upper()]
        wrong += [" ".join(words[:at] + words[at + 1:]) for at in range(len(words))]
        wrong += ["  ".join([" ".join(words[:at]), " ".join(words[at:])])
                  for at in range(1, len(words))]
        wrong += [line.replace("1", number) for number in
                  ("01", "00", "-1", "+1", "1.0", "1e1", "0x1", "x", "1_0", "", "9" * 31, "1 1")
                  if "1" in words]
        for one in wrong:
            self.refuse(index, make(one))

    def test_exchanged_words(self):
        words = SOURCE.split(" ")
        for at in range(len(words) - 1):
            other = [*words[:at], words[at + 1], words[at], *words[at + 2:]]
            if other[0] == "source" and at % 2 == 1:
                self.refuse(0, small().replace(SOURCE, " ".join(other)))
        self.refuse(0, small().replace("level 1 gap 1", "gap 1 level 1"))
        self.refuse(0, small().replace("enter 0 leave 0", "leave 0 enter 0"))
        self.refuse(1, small(handler="arm 1 a\n"))
        self.refuse(0, small(head="counter 1 b\n"))

    def test_levels(self):
        fourth = "either\nloop 1\nwhen b\n{}or\nend\nend\nor\nend\n"
        self.agree(small(handler=fourth.format("")))
        self.agree(small(handler=fourth.format("run 1\n")))
        for fifth in ("either\nor\nend\n", "when b\nor\nend\n", "loop 1\nend\n",
                      "either\n", "loop 1\nrun 1\nend\n", "either\nwalk\n"):
            self.refuse(4, small(handler=fourth.format(fifth)))
            self.refuse(5, small(handler=fourth.format("run 1\n" + fifth)))
            self.refuse(7, small(background=fourth.format(fifth)))
        other = "loop 1\neither\nor\nloop 2\n{}end\nend\nend\n"
        self.refuse(5, small(handler=other.format("loop 1\nend\n")))
        self.agree(small(handler=other.format("run 1\n")))


class SweepTests(Checks):
    def test_each_line_changed(self):
        for text in (FULL, *[format_program(any_program(seed)) for seed in range(6)]):
            lines = text.split("\n")
            for at, line in enumerate(lines):
                self.agree("\n".join(lines[:at] + lines[at + 1:]))
                self.agree("\n".join(lines[:at] + [line, line] + lines[at + 1:]))
                self.agree("\n".join(lines[:at] + lines[at:at + 2][::-1] + lines[at + 2:]))
                for other in LINES:
                    self.agree("\n".join(lines[:at] + [other] + lines[at:]))
                    self.agree("\n".join(lines[:at] + [other] + lines[at + 1:]))
                    self.agree("\n".join(lines[:at] + [other]))

    def test_short_texts_of_all_kinds(self):
        texts = [[]]
        for _ in range(3):
            texts = [[*lines, line] for lines in texts for line in LINES]
            for lines in texts:
                self.agree("\n".join(lines))

    def test_words_changed(self):
        lines = FULL.split("\n")
        for at, line in enumerate(lines):
            words = line.split(" ")
            for place in range(len(words) + 1):
                for word in ("", "run", "end", "x", "0", "1", "007", "-1", "9" * 30, "9" * 31):
                    for more in (0, 1):
                        changed = " ".join([*words[:place], word, *words[place + more:]])
                        self.agree("\n".join([*lines[:at], changed, *lines[at + 1:]]))


class LaterErrorTests(unittest.TestCase):
    def refuse(self, kind, value, text):
        with self.assertRaises(kind) as caught:
            parse_program(text)
        self.assertEqual(caught.exception.value, value)

    def test_numbers_out_of_their_bounds(self):
        long = "9" * 30
        for name, place in (("level", 1), ("gap", 1), ("keep", 1), ("enter", 0), ("leave", 0)):
            for word in ("51", "0", long):
                if (name, word) not in (("enter", "0"), ("leave", "0")):
                    text = small().replace(f"{name} {place}", f"{name} {word}")
                    self.refuse(InvalidNumber, int(word), text)
            with self.assertRaises(ParseError):
                parse_program(small().replace(f"{name} {place}", f"{name} 9{long}"))
        for word in ("0", "21", long):
            self.refuse(InvalidBody, (("run", int(word)),), small(handler=f"run {word}\n"))
            self.refuse(InvalidProgram, (("run", int(word)),), small(background=f"run {word}\n"))

    def test_zero_is_written_without_more(self):
        self.refuse(InvalidBody, (("mask", 0),), small(handler="mask 0\n"))
        with self.assertRaises(ParseError):
            parse_program(small(handler="mask 00\n"))

    def test_any_words_as_names(self):
        for word in ("A", "a1", "abcdefghi", "x" * 200, "7", "a-b", "~", "Fast", "-"):
            self.refuse(InvalidName, word, small().replace("source a", f"source {word}"))
            body = (("run", 1), ("answer", word))
            self.refuse(InvalidBody, body, small(handler=f"run 1\nanswer {word}\n"))
            self.refuse(InvalidProgram, body, small(background=f"run 1\nanswer {word}\n"))
            self.refuse(InvalidProgram, ((word, (("run", 1),)),),
                        small(behind=f"task {word}\nrun 1\nend\n"))
            self.refuse(InvalidProgram, ((word, 1),), small(head=f"counter {word} 1\n"))

    def test_how_many_does_not_count(self):
        with self.assertRaises(InvalidProgram) as caught:
            parse_program("background\nrun 1\nend")
        self.assertEqual(list(caught.exception.value), [])
        self.refuse(InvalidProgram, (), small(background=""))
        self.refuse(InvalidBody, (), small(handler=""))
        self.refuse(InvalidProgram, (("run", 1),) * 41, small(background="run 1\n" * 41))
        self.refuse(InvalidBody, (("run", 1),) * 1500, small(handler="run 1\n" * 1500))
        counters = "".join([f"counter {name} 1\n" for name in "bcde"])
        self.refuse(InvalidProgram, tuple([(name, 1) for name in "bcde"]), small(head=counters))
        tasks = "".join([f"task {name}\nrun 1\nend\n" for name in "bcde"])
        self.refuse(InvalidProgram, tuple([(name, (("run", 1),)) for name in "bcde"]),
                    small(behind=tasks))
        sources = "".join([f"{SOURCE}\nrun 1\nend\n" for _ in range(4)])
        with self.assertRaises(InvalidProgram) as caught:
            parse_program(small(head=sources))
        self.assertEqual([one.name for one in caught.exception.value], ["a"] * 5)

    def test_the_errors_of_sources_stand_in_the_order_of_the_text(self):
        wrong = ["source A level 0 gap 0 keep 0 enter 9 leave 9\nend\n",
                 "source b level 0 gap 51 keep 1 enter 0 leave 0\nend\n",
                 "source c level 1 gap 1 keep 1 enter 0 leave 0\nend\n"]
        found = [(InvalidName, "A"), (InvalidNumber, 0), (InvalidBody, ())]
        for at, (kind, value) in enumerate(found):
            self.refuse(kind, value, small(head="".join(wrong[at:])))
            self.refuse(kind, value, small(head=wrong[at] + "".join(wrong)))

    def test_sources_go_ahead_of_the_program(self):
        text = small(head="counter A 9\n", handler="", behind="task B\nend\n", background="")
        self.refuse(InvalidBody, (), text)
        self.refuse(InvalidProgram, (), text.replace("leave 0", "leave 1"))

    def test_the_errors_of_the_program(self):
        self.refuse(InvalidProgram, "a", small(behind="task a\nrun 1\nend\n"))
        self.refuse(InvalidProgram, "main", small(head="counter main 1\n"))
        self.refuse(InvalidProgram, "main", small().replace("source a", "source main"))
        self.refuse(InvalidProgram, (("run", 1), ("answer", "b")),
                    small(background="run 1\nanswer b\n"))

    def test_a_line_that_cannot_stand_there_goes_ahead_of_all(self):
        wrong = "source A level 0 gap 0 keep 0 enter 9 leave 9\nend\n"
        for text, line in (
            (small(head=wrong) + "\n", 8),
            (small(head=wrong, background="run 1\nor\n"), 7),
            (small(head=wrong, background="walk\n"), 6),
            (small(head=wrong)[:-4], 7),
            (small(head="counter A 9\ncounter A 9\n", behind="end\n"), 5),
        ):
            with self.assertRaises(ParseError) as caught:
                parse_program(text)
            self.assertEqual(caught.exception.line, line)


if __name__ == "__main__":
    unittest.main()

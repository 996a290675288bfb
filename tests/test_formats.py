"""Tests of format_program, and of parse_program for right texts."""

import unittest

from interruptruns.formats import format_program, parse_program
from interruptruns.programs import Program, Source
from samples import FULL, any_program, full_program

RUN = ("run", 1)
# Each statement with its lines.
WRITTEN = (
    (("run", 20), "run 20"),
    (("either", (), ()), "either\nor\nend"),
    (("either", (RUN,), (("run", 2), RUN)), "either\nrun 1\nor\nrun 2\nrun 1\nend"),
    (("either", (RUN,), ()), "either\nrun 1\nor\nend"),
    (("when", "c", (), (RUN,)), "when c\nor\nrun 1\nend"),
    (("when", "c", (RUN,), ()), "when c\nrun 1\nor\nend"),
    (("loop", 5, (RUN, RUN)), "loop 5\nrun 1\nrun 1\nend"),
    (("mask", 9), "mask 9"),
    (("unmask",), "unmask"),
    (("answer", "s"), "answer s"),
    (("raise", "s"), "raise s"),
    (("arm", "s", 50), "arm s 50"),
    (("post", "t"), "post t"),
    (("add", "c"), "add c"),
    (("take", "c"), "take c"),
    (
        ("either", (("either", (("either", (RUN,), ()),), ()),), ()),
        "either\neither\neither\nrun 1\nor\nend\nor\nend\nor\nend",
    ),
)


class TextTests(unittest.TestCase):
    def check(self, program, text):
        self.assertEqual(format_program(program), text)
        self.assertEqual(format_program(program=program), text)
        self.assertEqual(parse_program(text), program)
        self.assertEqual(parse_program(text=text), program)

    def test_the_full_text(self):
        self.check(full_program(), FULL)

    def test_the_least_text(self):
        program = Program([Source("a", 1, 1, (), leave=1)], (RUN,))
        text = "source a level 1 gap 1 keep 1 enter 0 leave 1\nend\nbackground\nrun 1\nend"
        self.check(program, text)

    def test_each_statement_in_each_place(self):
        lines = "counter c 1\nsource s level 9 gap 50 keep 3 enter 5 leave 5\n{}end\n" \
            "task t\nrun 1\n{}end\nbackground\nrun 1\n{}end"
        for statement, written in WRITTEN:
            for at in range(3):
                bodies = [(statement,) if at == place else () for place in range(3)]
                source = Source("s", 9, 50, bodies[0], keep=3, enter=5, leave=5)
                program = Program([source], (RUN, *bodies[2]), tasks=[("t", (RUN, *bodies[1]))],
                                  counters=[("c", 1)])
                texts = [written + "\n" if at == place else "" for place in range(3)]
                self.check(program, lines.format(*texts))

    def test_words_of_lines_as_names(self):
        text = "counter counter 1\nsource end level 1 gap 1 keep 1 enter 0 leave 0\nrun 1\n" \
            "answer end\nwhen counter\nor\nend\nend\ntask or\nrun 2\npost or\nend\n" \
            "background\nrun 1\nraise end\nend"
        program = parse_program(text)
        self.assertEqual((program.names, program.tasks[0][0]), (("end",), "or"))
        self.assertEqual(program.counters, (("counter", 1),))
        self.assertEqual(format_program(program), text)

    def test_many_programs_are_read_back(self):
        for seed in range(300):
            program = any_program(seed)
            text = format_program(program)
            self.assertEqual(parse_program(text), program)
            self.assertEqual(format_program(parse_program(text)), text)

    def test_texts_tell_programs_apart(self):
        texts = {format_program(any_program(seed)) for seed in range(300)}
        self.assertEqual(len(texts), 300)

    def test_no_line_feed_at_the_end(self):
        self.assertEqual(format_program(full_program())[-4:], "\nend")


class DocumentTests(unittest.TestCase):
    def test_the_example(self):
        text = 'source fast level 2 gap 7 keep 1 enter 0 leave 0\nrun 2\nanswer fast\nend\n' \
            'background\neither\nrun 1\nor\nrun 2\nend\nend'
        program = parse_program(text)
        self.assertEqual([format_program(program) == text, program.background],
                         [True, (('either', (('run', 1),), (('run', 2),)),)])


if __name__ == "__main__":
    unittest.main()

"""Tests of editors: changes, trials and attempts."""

import random
import unittest

from interruptruns.changes import Editor, changed, grown
from interruptruns.errors import InvalidBody, InvalidName, InvalidProgram, NothingToRedo, NothingToUndo
from interruptruns.programs import Program, Source
from small import background, program_of, source, task

PROGRAM = program_of("counter c 1", source("a", 1, 6, "run 2; answer a"), source("b", 2, 9, "run 3; answer b"),
                     task("job", "run 1"), background("run 1"))


def ticks(many):
    return (("run", many),)


class Broken(Exception):
    pass


class EditorCase(unittest.TestCase):
    def setUp(self):
        self.editor = Editor(PROGRAM)

    def check(self, many, undone=None, redone=None):
        """The background has so many ticks; so many changes can be taken back, and done again."""
        self.assertEqual(self.editor.program, PROGRAM.replaced("main", ticks(many)))
        if undone is not None:
            self.assertEqual(self.count(self.editor.undo, self.editor.redo, NothingToUndo), undone)
        if redone is not None:
            self.assertEqual(self.count(self.editor.redo, self.editor.undo, NothingToRedo), redone)

    def count(self, there, back, error):
        many = 0
        while True:
            try:
                there()
            except error:
                break
            many += 1
        for _ in range(many):
            back()
        return many

    def replace(self, *numbers):
        for number in numbers:
            self.assertIsNone(self.editor.replace("main", ticks(number)))


class EditorTests(EditorCase):
    def test_the_example(self):
        a = Source("a", 1, 6, (("run", 2), ("answer", "a")))
        b = Source("b", 2, 9, (("run", 3), ("answer", "b")))
        program = Program([a, b], (("run", 1),))
        editor = Editor(program)
        editor.attempt([("b", (("run", 9), ("answer", "b")))], False)
        self.assertIs(editor.program, program)
        editor.attempt([("b", (("run", 4), ("answer", "b")))])
        self.assertEqual(changed(program, editor.program), ("b",))
        self.assertEqual(grown(program, editor.program), [("a", 5, 6), ("b", 3, 4)])

    def test_the_first_program(self):
        self.assertIs(Editor(program=PROGRAM).program, PROGRAM)
        self.check(1, 0, 0)

    def test_replace(self):
        for name, body in (("a", ticks(5)), ("b", ticks(9)), ("job", ticks(3)), ("main", ticks(2))):
            before = self.editor.program
            self.assertIsNone(self.editor.replace(name=name, body=body))
            self.assertEqual(self.editor.program, before.replaced(name, body))
            self.assertEqual(self.editor.program.body_of(name), body)
        self.assertEqual(PROGRAM.body_of("a"), (("run", 2), ("answer", "a")))

    def test_undo_and_redo(self):
        self.replace(2, 3, 4)
        self.check(4, 3, 0)
        self.assertIsNone(self.editor.undo())
        self.check(3, 2, 1)
        self.editor.undo()
        self.editor.undo()
        self.check(1, 0, 3)
        self.assertIsNone(self.editor.redo())
        self.editor.redo()
        self.check(3, 2, 1)
        self.editor.redo()
        self.check(4, 3, 0)

    def test_nothing_to_undo_or_redo(self):
        for _ in "ab":
            self.assertRaises(NothingToUndo, self.editor.undo)
            self.assertRaises(NothingToRedo, self.editor.redo)
        self.replace(2)
        self.assertRaises(NothingToRedo, self.editor.redo)
        self.check(2, 1, 0)
        self.editor.undo()
        self.assertRaises(NothingToUndo, self.editor.undo)
        self.check(1, 0, 1)

    def test_a_new_change(self):
        self.replace(2, 3, 4)
        self.editor.undo()
        self.editor.undo()
        self.replace(5)
        self.check(5, 2, 0)
        self.editor.undo()
        self.check(2, 1, 1)
        self.editor.redo()
        self.check(5, 2, 0)

    def test_the_same_body(self):
        self.replace(2)
        self.editor.undo()
        self.replace(1)
        self.check(1, 1, 0)
        self.replace(1, 1)
        self.check(1, 3, 0)

    def test_a_replace_that_is_refused(self):
        self.replace(2, 3)
        self.editor.undo()
        refused = [(InvalidName, ("none", ticks(1)), "none"), (InvalidName, ("c", ticks(1)), "c"), (InvalidName, (None, None), None),
                   (InvalidBody, ("a", None), None), (InvalidBody, ("a", ()), ()), (InvalidBody, ("main", (("run", 0),)), (("run", 0),)),
                   (InvalidProgram, ("main", ()), ()), (InvalidProgram, ("job", ()), (("job", ()),)),
                   (InvalidProgram, ("a", (("run", 1), ("answer", "x"))), (("run", 1), ("answer", "x")))]
        for error, arguments, value in refused:
            with self.assertRaises(error) as caught:
                self.editor.replace(*arguments)
            self.assertEqual(caught.exception.value, value)
            self.check(2, 1, 1)

    def test_editors_are_independent(self):
        other = Editor(PROGRAM)
        self.replace(2)
        self.assertIs(other.program, PROGRAM)
        self.assertRaises(NothingToUndo, other.undo)

    def test_any_histories(self):
        rng = random.Random(12)
        for _ in range(50):
            editor, past, future, present = Editor(PROGRAM), [], [], PROGRAM
            for _ in range(30):
                kind = rng.choice(("replace", "replace", "undo", "redo", "undo", "redo", "refused"))
                if kind == "replace":
                    name, body = rng.choice(("a", "b", "job", "main")), ticks(rng.randint(1, 9))
                    past, future, present = past + [present], [], present.replaced(name, body)
                    editor.replace(name, body)
                elif kind == "refused":
                    self.assertRaises(InvalidName, editor.replace, "x", ticks(1))
                elif kind == "undo" and past:
                    future, present, past = future + [present], past[-1], past[:-1]
                    editor.undo()
                elif kind == "undo":
                    self.assertRaises(NothingToUndo, editor.undo)
                elif future:
                    past, present, future = past + [present], future[-1], future[:-1]
                    editor.redo()
                else:
                    self.assertRaises(NothingToRedo, editor.redo)
                self.assertEqual(editor.program, present)


class TrialTests(EditorCase):
    def setUp(self):
        super().setUp()
        # One change can be taken back, one can be done again.
        self.replace(2, 3)
        self.editor.undo()

    def test_without_accept(self):
        with self.editor.trial() as trial:
            self.assertTrue(callable(trial.accept))
            self.check(2, 1, 1)
            self.replace(5, 6)
            self.check(6, 3, 0)
        self.check(2, 1, 1)
        self.editor.redo()
        self.check(3, 2, 0)

    def test_with_accept(self):
        with self.editor.trial() as trial:
            self.replace(5)
            self.assertIsNone(trial.accept())
            self.replace(6, 7)
            self.check(7, 4, 0)
        self.check(7, 2, 0)
        self.editor.undo()
        self.check(2, 1, 1)
        self.editor.redo()
        self.check(7, 2, 0)

    def test_accept_ahead_of_all_changes_and_twice(self):
        with self.editor.trial() as trial:
            trial.accept()
            self.replace(5)
            trial.accept()
        self.check(5, 2, 0)

    def test_with_accept_and_an_error(self):
        with self.assertRaises(Broken):
            with self.editor.trial() as trial:
                self.replace(5)
                trial.accept()
                raise Broken
        self.check(2, 1, 1)

    def test_without_accept_and_an_error(self):
        with self.assertRaises(InvalidName) as caught:
            with self.editor.trial():
                self.replace(5)
                self.editor.replace("none", ticks(1))
        self.assertEqual(caught.exception.value, "none")
        self.check(2, 1, 1)

    def test_an_error_that_is_caught_in_the_block(self):
        with self.editor.trial() as trial:
            self.replace(5)
            self.assertRaises(InvalidName, self.editor.replace, "none", ticks(1))
            trial.accept()
        self.check(5, 2, 0)

    def test_a_trial_without_a_change(self):
        with self.editor.trial():
            pass
        self.check(2, 1, 1)
        # If it is accepted, the same program is put in place, by one change.
        with self.editor.trial() as trial:
            trial.accept()
        self.check(2, 2, 0)

    def test_undo_and_redo_inside(self):
        with self.editor.trial():
            self.editor.undo()
            self.check(1, 0, 2)
            self.assertRaises(NothingToUndo, self.editor.undo)
            self.replace(5)
        self.check(2, 1, 1)
        with self.editor.trial():
            self.editor.redo()
            self.check(3, 2, 0)
        self.check(2, 1, 1)

    def test_undo_and_redo_inside_of_one_that_is_accepted(self):
        with self.editor.trial() as trial:
            self.editor.undo()
            trial.accept()
        self.check(1, 2, 0)
        self.editor.undo()
        self.check(2, 1, 1)
        self.editor.undo()
        self.check(1, 0, 2)
        self.editor.redo()
        with self.editor.trial() as trial:
            self.editor.redo()
            self.check(1, 2, 0)
            self.replace(4)
            self.editor.undo()
            trial.accept()
        self.check(1, 2, 0)

    def test_the_inner_one_is_accepted(self):
        with self.editor.trial():
            self.replace(5)
            with self.editor.trial() as inner:
                self.replace(6, 7)
                inner.accept()
            self.check(7, 3, 0)
            self.editor.undo()
            self.check(5, 2, 1)
        self.check(2, 1, 1)

    def test_the_outer_one_is_accepted(self):
        with self.editor.trial() as outer:
            self.replace(5)
            with self.editor.trial():
                self.replace(6)
                outer.accept()
            self.check(5, 2, 0)
        self.check(5, 2, 0)
        self.editor.undo()
        self.check(2, 1, 1)

    def test_both_are_accepted(self):
        with self.editor.trial() as outer:
            with self.editor.trial() as inner:
                self.replace(6)
                self.assertIsNot(inner, outer)
                inner.accept()
            outer.accept()
        self.check(6, 2, 0)

    def test_an_error_of_the_inner_block_that_is_caught_outside(self):
        with self.editor.trial() as outer:
            self.replace(5)
            try:
                with self.editor.trial() as inner:
                    self.replace(6)
                    inner.accept()
                    raise Broken
            except Broken:
                outer.accept()
            self.check(5, 2, 0)
        self.check(5, 2, 0)

    def test_trials_behind_each_other(self):
        for number in (4, 5, 6):
            with self.editor.trial() as trial:
                self.replace(9, number)
                trial.accept()
        self.check(6, 4, 0)
        self.editor.undo()
        self.check(5, 3, 1)

    def test_what_was_there_ahead_of_the_block(self):
        trial = self.editor.trial()
        self.replace(8)
        with trial as held:
            self.replace(9)
            self.assertIs(trial.accept(), None)
            self.assertIsNotNone(held)
        self.check(9, 3, 0)
        other = self.editor.trial()
        self.editor.undo()
        with other:
            self.replace(7)
        self.check(8, 2, 1)


class AttemptTests(EditorCase):
    CHANGES = (("main", ticks(4)), ("a", ticks(3)), ("main", ticks(5)))

    def setUp(self):
        super().setUp()
        self.replace(2, 3)
        self.editor.undo()

    def test_lists_and_tuples(self):
        for changes in (self.CHANGES, list(self.CHANGES)):
            self.assertIsNone(self.editor.attempt(changes))
            self.assertEqual(self.editor.program, PROGRAM.replaced("a", ticks(3)).replaced("main", ticks(5)))
            self.editor.undo()
            self.check(2, 1)

    def test_accept(self):
        self.assertIsNone(self.editor.attempt(self.CHANGES[:1], False))
        self.check(2, 1, 1)
        self.editor.attempt(changes=self.CHANGES[:1], accept=False)
        self.check(2, 1, 1)
        self.editor.attempt(changes=self.CHANGES[:1], accept=True)
        self.check(4, 2, 0)
        self.editor.attempt([("main", ticks(6))], True)
        self.check(6, 3, 0)
        self.editor.attempt([("main", ticks(7))])
        self.check(7, 4, 0)

    def test_no_changes(self):
        for changes in ((), []):
            self.editor.attempt(changes, False)
            self.check(2, 1, 1)
        self.editor.attempt([])
        self.check(2, 2, 0)

    def test_the_first_one_that_is_refused(self):
        wrong = [(InvalidName, ("x", ticks(1)), "x"), (InvalidBody, ("a", 5), 5), (InvalidProgram, ("main", ()), ()),
                 (InvalidName, (None, None), None), (InvalidName, (["a"], ()), ["a"])]
        for error, change, value in wrong:
            for changes in ([change], [*self.CHANGES, change], [*self.CHANGES, change, ("y", 0)]):
                for accept in (True, False):
                    with self.assertRaises(error) as caught:
                        self.editor.attempt(changes, accept)
                    self.assertEqual(caught.exception.value, value)
                    self.check(2, 1, 1)

    def test_what_is_no_list_of_changes(self):
        right = ("main", ticks(4))
        for changes in (None, 0, True, "", "ab", {}, {right: right}, object(), right, [right, None], [list(right)], [right, ("a",)],
                        [right, (*right, 1)], [()], ((right,),), ["ab"], [("x", 1), 5], iter([right]), {right}):
            for accept in (True, False):
                with self.assertRaises(InvalidProgram) as caught:
                    self.editor.attempt(changes, accept)
                self.assertIs(caught.exception.value, changes)
                self.check(2, 1, 1)

    def test_inside_of_a_trial(self):
        with self.editor.trial() as trial:
            self.editor.attempt([("main", ticks(4)), ("main", ticks(5))])
            self.check(5, 2, 0)
            self.editor.attempt([("main", ticks(6))], False)
            self.assertRaises(InvalidName, self.editor.attempt, [("main", ticks(7)), ("x", ticks(1))])
            self.check(5, 2, 0)
            trial.accept()
        self.check(5, 2, 0)

    def test_later_changes_to_the_list(self):
        changes = [("main", ticks(4))]
        self.editor.attempt(changes)
        changes[0] = ("main", ticks(5))
        self.check(4, 2, 0)


if __name__ == "__main__":
    unittest.main()

"""Tests of sheets [2] [3] [5] [6] [7]."""

import inspect
import random
import unittest

from fitsizes import sheets as module
from fitsizes.errors import InvalidNumber, InvalidPipeline, NothingToUndo, Unreadable
from fitsizes.fitting import fitting_sizes
from fitsizes.pipelines import Pipeline
from fitsizes.sheets import Sheet
from fitsizes.sizes import sizes_at
from fitsizes.texts import show_pipeline
from tests.cases import Case
from tests.plain import APART, BRIDGE, TWICE, plain_sizes, random_step, random_steps

FAR = 10 ** 33

ALL = ("classes", 1, 1, [0])
EVEN = [("window", 0, 2, 2, 0), ("repeat", 1, 2), ("join", 2, 0)]


class InterfaceTest(Case):

    def test_methods_stand_in_the_class(self):
        self.assertEqual(Sheet.__module__, module.__name__)
        for name, told in [("__init__", ["self", "pipeline"]), ("__eq__", ["self", "other"]),
                           ("sizes", ["self", "size"]), ("add", ["self", "step"]), ("put", ["self", "number", "step"]),
                           ("cut", ["self", "number"]), ("undo", ["self"])]:
            with self.subTest(name=name):
                self.assertIn(name, vars(Sheet))
                if name != "__eq__":
                    self.assertEqual(list(inspect.signature(vars(Sheet)[name]).parameters), told)
        self.assertIsInstance(vars(Sheet)["pipeline"], property)
        self.assertIsInstance(vars(Sheet)["of_text"], classmethod)
        self.assertEqual(list(inspect.signature(Sheet.of_text).parameters), ["text"])

    def test_example_of_the_document(self):
        sheet = Sheet.of_text('repeat 0 2; pad 0 5 5')
        self.assertEqual([sheet.add(("join", 1, 2)), sheet.put(1, ("pad", 0, 0, 0)), sheet.undo(),
                          list(sheet.sizes(10)), sheet.cut(1), len(sheet.pipeline)],
                         [(ALL, ("some", [10])), (("some", [10]), ("some", [])), None, [10, 20, 20, 20],
                          (("some", [10]), ALL), 1])

    def test_arguments_by_name(self):
        sheet = Sheet(pipeline=Pipeline(TWICE[:2]))
        self.assertEqual(sheet.add(step=("join", 1, 2)), (ALL, ("some", [10])))
        self.assertEqual(sheet.put(step=("pad", 0, 4, 5), number=1), (("some", [10]), ("some", [9])))
        self.assertEqual(list(sheet.sizes(size=9)), [9, 18, 18, 18])
        self.assertEqual(sheet.cut(number=0), (("some", [9]), ALL))
        self.assertEqual(Sheet.of_text(text="-"), sheet)
        self.check_raises(InvalidPipeline, 0, sheet.add, step=("repeat", 1, 2))
        self.check_raises(InvalidNumber, 0, sheet.put, step=("repeat", 1, 2), number=0)
        self.check_raises(InvalidNumber, 1, sheet.cut, number=1)
        self.check_raises(InvalidNumber, 0, lambda size: list(sheet.sizes(size=size)), size=0)
        self.check_raises(Unreadable, "", Sheet.of_text, text="")


class ChangesTest(Case):

    def check_steps(self, sheet, steps):
        self.assertEqual(sheet.pipeline.steps, steps)
        self.assertIs(type(sheet.pipeline), Pipeline)

    def test_add(self):
        sheet = Sheet(Pipeline([]))
        forms = [ALL, ("classes", 2, 1, [0]), ("classes", 2, 1, [0]), ("classes", 2, 2, [0])]
        for number, step in enumerate(EVEN):
            self.assertEqual(sheet.add(step), (forms[number], forms[number + 1]))
            self.check_steps(sheet, EVEN[:number + 1])
        self.assertEqual(sheet.add(("crop", 3, 9, 0)), (("classes", 2, 2, [0]), ("classes", 10, 2, [0])))
        self.assertEqual(sheet.add(("join", 4, 3)), (("classes", 10, 2, [0]), ("some", [])))

    def test_put(self):
        sheet = Sheet(Pipeline(TWICE))
        self.assertEqual(sheet.put(1, ("pad", 0, 3, 4)), (("some", [10]), ("some", [7])))
        self.check_steps(sheet, [TWICE[0], ("pad", 0, 3, 4), TWICE[2]])
        self.assertEqual(sheet.put(0, ("repeat", 0, 1)), (("some", [7]), ("some", [])))
        self.assertEqual(sheet.put(2, ("join", 0, 1)), (("some", []), ALL))
        self.check_steps(sheet, [("repeat", 0, 1), ("pad", 0, 3, 4), ("join", 0, 1)])
        self.assertEqual(sheet.put(2, ("join", 0, 1)), (ALL, ALL))

    def test_put_of_a_step_on_which_later_ones_rest(self):
        sheet = Sheet(Pipeline(BRIDGE))
        self.assertEqual(sheet.put(0, ("crop", 0, 0, 0)), (("classes", 4, 4, [0]), ("some", [])))
        self.check_steps(sheet, [("crop", 0, 0, 0)] + BRIDGE[1:])
        self.assertEqual(sheet.put(1, ("window", 0, 4, 4, 0)), (("some", []), ("classes", 4, 4, [0])))
        self.check_steps(sheet, [("crop", 0, 0, 0), ("window", 0, 4, 4, 0)] + BRIDGE[2:])

    def test_cut(self):
        for number in range(len(BRIDGE) + 1):
            sheet = Sheet(Pipeline(BRIDGE))
            self.assertEqual(sheet.cut(number), (("classes", 4, 4, [0]), fitting_sizes(Pipeline(BRIDGE[:number]))))
            self.check_steps(sheet, BRIDGE[:number])
        sheet = Sheet(Pipeline([("crop", 0, 3, 3)]))
        self.assertEqual(sheet.cut(1), (("classes", 7, 1, [0]),) * 2)
        self.assertEqual(sheet.cut(0), (("classes", 7, 1, [0]), ALL))
        self.assertEqual(sheet.cut(0), (ALL, ALL))

    def test_undo_takes_back_one_after_the_other(self):
        sheet = Sheet(Pipeline(TWICE))
        sheet.put(1, ("pad", 0, 0, 0))
        sheet.add(("crop", 3, 1, 1))
        sheet.cut(1)
        sheet.cut(1)
        sheet.add(("window", 1, 2, 2, 0))
        steps = [[TWICE[0]], [TWICE[0]], [TWICE[0], ("pad", 0, 0, 0), TWICE[2], ("crop", 3, 1, 1)],
                 [TWICE[0], ("pad", 0, 0, 0), TWICE[2]], TWICE]
        for told in steps:
            self.assertIsNone(sheet.undo())
            self.check_steps(sheet, told)
        for _ in range(2):
            self.check_raises(NothingToUndo, 0, sheet.undo)
            self.check_steps(sheet, TWICE)

    def test_calls_after_an_undo_are_taken_back_too(self):
        sheet = Sheet(Pipeline([]))
        sheet.add(("repeat", 0, 2))
        sheet.add(("repeat", 1, 3))
        sheet.undo()
        sheet.add(("pad", 1, 1, 0))
        sheet.add(("crop", 2, 1, 0))
        sheet.undo()
        sheet.undo()
        self.check_steps(sheet, [("repeat", 0, 2)])
        sheet.put(0, ("repeat", 0, 5))
        sheet.undo()
        self.check_steps(sheet, [("repeat", 0, 2)])
        sheet.undo()
        self.check_steps(sheet, [])
        self.check_raises(NothingToUndo, 0, sheet.undo)
        sheet.add(("repeat", 0, 4))
        self.assertIsNone(sheet.undo())
        self.check_raises(NothingToUndo, 0, sheet.undo)

    def test_many_calls(self):
        """Compared with a list of all the pipelines that there have been."""
        chance = random.Random(101)
        for _ in range(20):
            steps = random_steps(chance, 5)
            sheet = Sheet(Pipeline(steps))
            told = [steps]
            for _ in range(100):
                steps = list(told[-1])
                word = chance.choice(["add", "put", "cut", "undo"])
                number = chance.randint(0, len(steps))
                step = random_step(chance, steps[:number], chance.choice(["window", "repeat", "crop", "pad", "join"]))
                if word == "undo":
                    if len(told) > 1:
                        self.assertIsNone(sheet.undo())
                        told.pop()
                    else:
                        self.check_raises(NothingToUndo, 0, sheet.undo)
                    continue
                if word == "cut":
                    forms = sheet.cut(number)
                    steps = steps[:number]
                elif step is None or (word == "add") != (number == len(steps)) or number > 7:
                    continue
                else:
                    forms = sheet.add(step) if word == "add" else sheet.put(number, step)
                    steps[number:number + 1] = [step]
                self.assertEqual(forms, (fitting_sizes(Pipeline(told[-1])), fitting_sizes(Pipeline(steps))))
                told.append(steps)
                self.check_steps(sheet, steps)

    def test_returned_lists_are_new(self):
        sheet = Sheet(Pipeline(EVEN))
        forms = sheet.add(("repeat", 3, 1))
        self.assertEqual([type(form) for form in (forms,) + forms], [tuple] * 3)
        for form in forms:
            form[-1].append(1)
        self.assertEqual(sheet.cut(3), (("classes", 2, 2, [0]), ("classes", 2, 2, [0])))
        before, after = sheet.cut(3)
        before[-1].clear()
        self.assertEqual(after, ("classes", 2, 2, [0]))


class TakenTest(Case):

    def test_the_pipeline_that_was_handed_over_stays_as_it_is(self):
        told = list(TWICE)
        pipeline = Pipeline(told)
        sheet, other = Sheet(pipeline), Sheet(pipeline)
        told.append(("crop", 0, 1, 1))
        sheet.add(("crop", 3, 1, 1))
        sheet.put(0, ("repeat", 0, 3))
        sheet.cut(2)
        self.assertEqual(pipeline.steps, TWICE)
        self.assertEqual(other.pipeline.steps, TWICE)
        self.check_raises(NothingToUndo, 0, other.undo)
        sheet.undo()
        self.assertEqual(pipeline.steps, TWICE)

    def test_what_was_returned_stays_as_it_is(self):
        sheet = Sheet(Pipeline(TWICE))
        first = sheet.pipeline
        first.steps.append(("crop", 0, 1, 1))
        self.assertEqual(sheet.pipeline, Pipeline(TWICE))
        sheet.cut(1)
        self.assertEqual(first.steps, TWICE)
        second = Sheet(sheet.pipeline)
        second.add(("pad", 1, 1, 1))
        self.assertEqual((len(sheet.pipeline), len(second.pipeline)), (1, 2))
        sheet.undo()
        self.assertEqual((first.steps, sheet.pipeline.steps), (TWICE, TWICE))
        self.assertEqual(first.followed_by(sheet.pipeline).steps[:3], TWICE)
        self.assertEqual(len(sheet.pipeline), 3)


class SizesTest(Case):

    def test_sizes_of_all_rows(self):
        for steps, size in [([], 3), (BRIDGE, 8), (BRIDGE, 6), (TWICE, 10), (TWICE, 1), (APART, 1), (APART, FAR),
                            ([("crop", 0, 0, 3), ("repeat", 1, 6), ("pad", 2, 4, 9)], 1)]:
            sheet = Sheet(Pipeline(steps))
            told = sheet.sizes(size)
            self.assertIs(iter(told), told)
            self.assertEqual(list(told), plain_sizes(steps, size))
            self.assertEqual(list(sheet.sizes(size)), sizes_at(Pipeline(steps), size))

    def test_one_after_the_other(self):
        told = Sheet(Pipeline(TWICE)).sizes(10)
        self.assertEqual([next(told), next(told), next(told), next(told), next(told, None)], [10, 20, 20, 20, None])
        self.assertEqual(list(told), [])

    def test_of_the_present_pipeline(self):
        sheet = Sheet(Pipeline(TWICE))
        sheet.put(0, ("repeat", 0, 3))
        self.assertEqual(list(sheet.sizes(4)), [4, 12, 14, 12])
        sheet.undo()
        self.assertEqual(list(sheet.sizes(4)), [4, 8, 14, 8])
        sheet.cut(0)
        self.assertEqual(list(sheet.sizes(4)), [4])

    def test_size_check(self):
        for steps in ([], TWICE, APART):
            sheet = Sheet(Pipeline(steps))
            for size in (0, -1, -FAR):
                self.check_raises(InvalidNumber, size, lambda told: next(iter(sheet.sizes(told))), size)
                self.check_raises(InvalidNumber, size, lambda told: list(sheet.sizes(told)), size)
            self.assertEqual(len(list(sheet.sizes(1))), len(steps) + 1)
            self.check_raises(NothingToUndo, 0, sheet.undo)


class TextTest(Case):

    def test_sheets_of_texts(self):
        for steps in ([], TWICE, BRIDGE, APART):
            sheet = Sheet.of_text(show_pipeline(Pipeline(steps)))
            self.assertIs(type(sheet), Sheet)
            self.assertEqual(sheet.pipeline, Pipeline(steps))
            self.check_raises(NothingToUndo, 0, sheet.undo)
            sheet.add(("repeat", 0, 1))
            sheet.undo()
            self.assertEqual(sheet.pipeline.steps, steps)

    def test_texts_that_no_pipeline_has(self):
        for text in ("", " ", "repeat 1 2", "repeat 0 2;", "repeat 0 02", "repeat 0 2; join 0 0", "--", "pad 0 5",
                     "repeat 0 1" + "0" * 40):
            self.check_raises(Unreadable, text, Sheet.of_text, text)


class EqualTest(Case):

    def test_equal_if_the_pipelines_are(self):
        changed = Sheet(Pipeline([]))
        changed.add(TWICE[0])
        changed.add(("crop", 0, 1, 1))
        changed.undo()
        changed.add(("pad", 1, 9, 9))
        changed.put(1, TWICE[1])
        changed.add(TWICE[2])
        cut = Sheet(Pipeline(TWICE + [("repeat", 0, 2)]))
        cut.cut(3)
        alike = [Sheet(Pipeline(TWICE)), Sheet.of_text("repeat 0 2; pad 0 5 5; join 1 2"), changed, cut]
        others = [Sheet(Pipeline([])), Sheet(Pipeline(TWICE[:2])), Sheet(Pipeline(BRIDGE)),
                  Sheet(Pipeline(TWICE + [("crop", 3, 0, 0)])), Sheet.of_text("repeat 0 2; pad 0 5 5; join 2 1")]
        for one in alike:
            for other in alike:
                self.assertIs(one == other, True)
                self.assertIs(one != other, False)
            for other in others:
                self.assertIs(one == other, False)
                self.assertIs(other == one, False)
                self.assertIs(one != other, True)
        changed.undo()
        self.assertIs(changed == cut, False)
        self.assertIs(changed == others[1], True)

    def test_equal_to_nothing_else(self):
        for steps in ([], TWICE):
            sheet = Sheet(Pipeline(steps))
            for other in [Pipeline(steps), steps, tuple(steps), show_pipeline(Pipeline(steps)), None, 0, {}, [sheet]]:
                self.assertIs(sheet == other, False)
                self.assertIs(other == sheet, False)
                self.assertIs(sheet != other, True)


class ErrorsTest(Case):

    def check_still(self, error, value, call, sheet):
        """The call raises and changes nothing, neither the pipeline nor what undo takes back."""
        steps = sheet.pipeline.steps
        self.check_raises(error, value, call, sheet)
        self.assertEqual(sheet.pipeline.steps, steps)
        sheet.undo()
        self.assertEqual(sheet.pipeline.steps, [("repeat", 0, 2)])
        self.check_raises(NothingToUndo, 0, sheet.undo)

    def three(self):
        """A sheet with three steps and one call to take back."""
        sheet = Sheet(Pipeline([("repeat", 0, 2)]))
        sheet.add(("pad", 0, 5, 5))
        return sheet

    def test_add(self):
        for step in [("join", 1, 1), ("join", 1, 3), ("repeat", 3, 2), ("repeat", -1, 2), ("repeat", 0, 0),
                     ("repeat", 0), ("step", 0, 1), ("window", 0, 3, 4, 0), ("window", 0, 3, 2, 3), ("crop", 0, -1, 0),
                     ("pad", 0, 0, -1), ()]:
            self.check_still(InvalidPipeline, 2, lambda sheet: sheet.add(step), self.three())
        empty = Sheet(Pipeline([]))
        for step in [("repeat", 1, 2), ("join", 0, 1)]:
            self.check_raises(InvalidPipeline, 0, empty.add, step)
            self.check_raises(NothingToUndo, 0, empty.undo)

    def test_put_of_a_wrong_step(self):
        for number in (0, 1):
            for step in [("join", 0, number + 1), ("repeat", number + 1, 2), ("repeat", 0, 0), ("crop", 0, 1),
                         ("window", 0, 0, 0, 0), ("word", 0, 1), ()]:
                self.check_still(InvalidPipeline, number, lambda sheet: sheet.put(number, step), self.three())

    def test_put_with_a_number_that_is_not_there(self):
        for number in (-1, -2, 2, 3, FAR, -FAR):
            for step in [("repeat", 0, 2), ("repeat", 0, 0), ("join", 9, 9), ()]:
                self.check_still(InvalidNumber, number, lambda sheet: sheet.put(number, step), self.three())
        self.check_raises(InvalidNumber, 0, Sheet(Pipeline([])).put, 0, ("repeat", 0, 2))

    def test_cut(self):
        for number in (-1, -2, 3, 4, FAR, -FAR):
            self.check_still(InvalidNumber, number, lambda sheet: sheet.cut(number), self.three())

    def test_sizes(self):
        for size in (0, -5):
            self.check_still(InvalidNumber, size, lambda sheet: list(sheet.sizes(size)), self.three())

    def test_no_error_for_the_least_and_the_greatest(self):
        for number in (0, 1):
            self.three().put(number, ("crop", number, 0, 0))
        for number in (0, 1, 2):
            self.three().cut(number)
        self.three().add(("join", 2, 0))
        self.three().add(("join", 0, 2))


if __name__ == "__main__":
    unittest.main()

"""Tests of steps and pipelines read from texts [2] [3] [5]."""

import random
import unittest

from fitsizes import readings as module
from fitsizes.errors import Unreadable
from fitsizes.pipelines import Pipeline
from fitsizes.readings import read_pipeline, read_step
from fitsizes.texts import show_pipeline, show_step
from tests.cases import Case
from tests.plain import APART, BRIDGE, TWICE, random_steps

FAR = 10 ** 33

STEPS = {"window 0 3 2 1": ("window", 0, 3, 2, 1), "window 0 1 1 0": ("window", 0, 1, 1, 0),
         "window 0 9 9 8": ("window", 0, 9, 9, 8), "repeat 0 1": ("repeat", 0, 1), "repeat 0 60": ("repeat", 0, 60),
         "crop 0 0 0": ("crop", 0, 0, 0), "crop 0 30 12": ("crop", 0, 30, 12), "pad 0 0 0": ("pad", 0, 0, 0),
         "pad 0 7 1": ("pad", 0, 7, 1)}

# No step has these texts, whatever the rows ahead of it are.
WRONG = [
    "", " ", "-", "--", ";", "; ", "0", "window", "repeat", "crop", "pad", "join", "step 0 1", "windows 0 3 2 1",
    "Window 0 3 2 1", "WINDOW 0 3 2 1", "wind 0 3 2 1", "repeats 0 2", "crops 0 1 1", "pads 0 1 1", "joins 0 1",
    "0 3 2 1", "3 window 0 3 2 1", "0 window 3 2 1",
    # Items more or less.
    "window 0 3 2", "window 0 3 2 1 0", "window 0", "repeat 0", "repeat 0 2 1", "crop 0 1", "crop 0 1 1 1", "pad 0 1",
    "pad 0 1 1 1", "join 1", "join 0 1 2", "join 0 1 0",
    # Spaces.
    "window  0 3 2 1", "window 0  3 2 1", "window 0 3 2  1", " window 0 3 2 1", "window 0 3 2 1 ", "repeat 0 2 ",
    " repeat 0 2", "repeat  0 2", "repeat 0  2", "  repeat 0 2", "repeat 0 2  ", "repeat0 2", "repeat 02", "repeat 0,2",
    # Integers that are not written so.
    "window 0 03 2 1", "window 00 3 2 1", "window 0 3 2 01", "repeat 0 02", "repeat 0 00", "repeat 00 2", "crop 0 00 0",
    "crop 0 1 -0", "crop 0 -0 1", "pad -0 1 1", "join -0 1", "repeat 0 +2", "repeat +0 2", "pad 0 1 +1",
    "repeat 0 1_0", "repeat 0 1.0", "repeat 0 2.", "repeat 0 1e1", "repeat 0 0x2", "repeat 0 two", "repeat 0 -",
    "crop 0 - 1", "repeat 0 --2", "repeat 0 2-", "repeat 0 (2)", "repeat 0 '2'", "repeat 0 True", "repeat 0 None",
    "repeat 0 2;", "repeat;0 2", "repeat 0 2; ", "; repeat 0 2", "-; repeat 0 2", "repeat 0 2; -", "repeat 0 2 -",
    "- repeat 0 2",
    # Digits and spaces of other scripts.
    "repeat 0 \u0663", "repeat 0 \u00b2", "repeat 0\u00a02", "repeat 0\t2", "repeat 0 2\n",
    # Numbers out of their bounds.
    "window 0 0 0 0", "window 0 0 1 0", "window 0 3 0 0", "window 0 3 4 0", "window 0 3 2 3", "window 0 3 2 4",
    "window 0 1 1 1", "window 0 3 2 -1", "window 0 3 -1 1", "window 0 -3 2 1", "repeat 0 0", "repeat 0 -1",
    "crop 0 -1 0", "crop 0 0 -1", "pad 0 -1 0", "pad 0 0 -1",
    # Rows below 0, and joins of a row with itself.
    "window -1 3 2 1", "repeat -1 2", "crop -1 0 0", "pad -2 0 0", "join -1 0", "join 0 -1", "join 0 0", "join 5 5",
]


class InterfaceTest(Case):

    def test_names_and_arguments(self):
        self.check_functions(module, {"read_step": ["text"], "read_pipeline": ["text"]})

    def test_example_of_the_document(self):
        self.assertEqual([read_step('join 1 2'), read_pipeline('repeat 0 2; pad 1 5 0').steps],
                         [("join", 1, 2), [("repeat", 0, 2), ("pad", 1, 5, 0)]])

    def test_arguments_by_name(self):
        self.assertEqual(read_step(text="join 1 2"), ("join", 1, 2))
        self.assertEqual(read_pipeline(text="-"), Pipeline([]))
        self.check_raises(Unreadable, "-", read_step, text="-")
        self.check_raises(Unreadable, "", read_pipeline, text="")

    def test_what_is_read_is_new(self):
        first = read_pipeline("repeat 0 2")
        first.steps.append(("repeat", 1, 2))
        self.assertEqual(read_pipeline("repeat 0 2").steps, [("repeat", 0, 2)])
        self.assertIs(type(first), Pipeline)
        self.assertIs(type(read_step("repeat 0 2")), tuple)
        self.assertEqual([type(item) for item in read_step("repeat 0 2")], [str, int, int])


class StepTest(Case):

    def test_right_texts(self):
        for text in STEPS:
            with self.subTest(text=text):
                self.assertEqual(read_step(text), STEPS[text])
                self.assertEqual(show_step(read_step(text)), text)

    def test_any_earlier_rows(self):
        for text, step in [("window 7 3 2 1", ("window", 7, 3, 2, 1)), ("repeat 100 2", ("repeat", 100, 2)),
                           ("crop 9 0 1", ("crop", 9, 0, 1)), ("pad 8 0 1", ("pad", 8, 0, 1)),
                           ("join 3 0", ("join", 3, 0)), ("join 0 1", ("join", 0, 1)), ("join 12 99", ("join", 12, 99)),
                           (f"join {FAR} 1", ("join", FAR, 1))]:
            with self.subTest(text=text):
                self.assertEqual(read_step(text), step)

    def test_as_many_digits_as_there_may_be(self):
        for digits in ("1" + "0" * 39, "9" * 40, "123456789" * 4 + "1234"):
            self.assertEqual(len(digits), 40)
            for text in (f"repeat 0 {digits}", f"crop 0 {digits} 0", f"pad 0 0 {digits}", f"repeat {digits} 2",
                         f"join 0 {digits}", f"window 0 {digits} {digits} 0"):
                step = read_step(text)
                self.assertEqual(step[1:], tuple(int(word) for word in text.split()[1:]))
                self.assertEqual(show_step(step), text)

    def test_a_digit_too_many(self):
        for digits in ("1" + "0" * 40, "9" * 41, "1" * 60, "0" * 41):
            for text in (f"repeat 0 {digits}", f"crop 0 {digits} 0", f"pad 0 0 {digits}", f"repeat {digits} 2",
                         f"join 0 {digits}", f"window 0 {digits} 1 0"):
                self.check_unreadable(text)

    def check_unreadable(self, text):
        self.check_raises(Unreadable, text, read_step, text)
        self.check_raises(Unreadable, text, read_step, text=text)

    def test_texts_that_no_step_has(self):
        for text in WRONG:
            self.check_unreadable(text)
        for text in STEPS:
            for wrong in (text + " ", " " + text, text + " 0", text + ";", text + "; " + text, text.rpartition(" ")[0],
                          text[1:], text.upper(), text.replace(" ", "  "), text.replace(" ", ""),
                          text.replace(" ", " 0"), text.replace(" ", " -"), text.replace(" ", " +"),
                          text.replace(" ", ",")):
                self.check_unreadable(wrong)

    def test_every_text_near_a_right_one(self):
        """With one sign taken out, put in or replaced, a text either is that of what is read or is unreadable."""
        signs = [chr(code) for code in range(32, 127)]
        read = 0
        for text in ("window 10 3 2 1", "repeat 0 2", "crop 0 10 0", "join 10 1"):
            near = [text[:at] + text[at + 1:] for at in range(len(text))]
            near += [text[:at] + sign + text[at:] for at in range(len(text) + 1) for sign in signs]
            near += [text[:at] + sign + text[at + 1:] for at in range(len(text)) for sign in signs]
            for one in near:
                try:
                    step = read_step(one)
                except Unreadable as error:
                    self.assertEqual(error.value, one)
                    continue
                self.assertEqual(show_step(step), one)
                read += 1
        self.assertGreater(read, 100)


class PipelineTest(Case):

    def test_what_is_shown_is_read_back(self):
        chance = random.Random(91)
        for steps in [[], BRIDGE, TWICE, APART] + [random_steps(chance) for _ in range(200)]:
            pipeline = Pipeline(steps)
            text = show_pipeline(pipeline)
            self.assertEqual(read_pipeline(text), pipeline)
            self.assertEqual(show_pipeline(read_pipeline(text)), text)
            for step in steps:
                self.assertEqual(read_step(show_step(step)), step)

    def test_no_steps(self):
        self.assertEqual(read_pipeline("-").steps, [])
        self.assertIs(type(read_pipeline("-")), Pipeline)

    def test_one_step(self):
        for text in STEPS:
            self.assertEqual(read_pipeline(text).steps, [STEPS[text]])

    def test_long_texts(self):
        text = "; ".join(f"repeat {row} 1" for row in range(150))
        self.assertEqual(read_pipeline(text).steps, [("repeat", row, 1) for row in range(150)])
        self.check_raises(Unreadable, text + ";", read_pipeline, text + ";")

    def check_unreadable(self, text):
        self.check_raises(Unreadable, text, read_pipeline, text)

    def test_texts_that_no_pipeline_has(self):
        for text in WRONG:
            if text != "-":
                self.check_unreadable(text)
                self.check_unreadable("repeat 0 2; " + text)
                self.check_unreadable(text + "; repeat 0 2")
                self.check_unreadable("repeat 0 2; " + text + "; pad 0 1 1")

    def test_semicolons(self):
        one, two = "repeat 0 2", "pad 1 5 0"
        self.assertEqual(len(read_pipeline(f"{one}; {two}")), 2)
        for between in (";", " ;", " ; ", ";  ", "; ; ", ";; ", ";;", ", ", " ", "", "; - ; ", "; -; ", ". ", ": "):
            self.check_unreadable(one + between + two)
        for text in (one + ";", one + "; ", "; " + one, ";" + one, f"{one}; {two};", f"{one}; {two}; ",
                     f"; {one}; {two}", f" {one}; {two}", f"{one}; {two} ", "-; -", "- ", " -", "-;", "-; " + one,
                     one + "; -"):
            self.check_unreadable(text)

    def test_steps_that_may_not_follow_one_another(self):
        for text in ("repeat 1 2", "window 1 3 2 1", "join 0 1", "join 1 0", "join 1 2", "repeat 0 2; repeat 2 2",
                     "repeat 0 2; pad 0 1 1; join 1 3", "repeat 0 2; join 2 1; pad 0 1 1", "repeat 0 2; join 0 2",
                     "pad 2 0 0; pad 0 0 0; pad 0 0 0", f"repeat {FAR} 2"):
            self.check_unreadable(text)
            for step in text.split("; "):
                read_step(step)
        for text in ("repeat 0 2; repeat 1 2", "repeat 0 2; join 0 1", "repeat 0 2; join 1 0",
                     "repeat 0 2; pad 0 1 1; join 2 1", "pad 0 0 0; pad 1 0 0; pad 2 0 0"):
            self.assertEqual(show_pipeline(read_pipeline(text)), text)

    def test_the_error_has_the_whole_text(self):
        text = "repeat 0 2; pad 0 5 05; join 1 2"
        self.check_unreadable(text)
        with self.assertRaises(Unreadable) as caught:
            read_pipeline(text)
        self.assertIs(caught.exception.value, text)


if __name__ == "__main__":
    unittest.main()

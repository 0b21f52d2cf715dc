"""Tests of the texts of steps, pipelines and forms [2] [5] [7]."""

import unittest

from fitsizes import texts as module
from fitsizes.fitting import fitting_sizes
from fitsizes.pipelines import Pipeline
from fitsizes.texts import show_form, show_pipeline, show_step
from tests.cases import Case
from tests.plain import APART, BRIDGE, TWICE

FAR = 10 ** 33


class InterfaceTest(Case):

    def test_names_and_arguments(self):
        self.check_functions(module, {"show_step": ["step"], "show_pipeline": ["pipeline"], "show_form": ["form"]})

    def test_example_of_the_document(self):
        self.assertEqual([show_step(("window", 0, 3, 2, 1)), show_pipeline(Pipeline([])),
                          show_form(("classes", 4, 4, [0, 3])), show_form(("some", []))],
                         ["window 0 3 2 1", "-", "from 4 by 4: 0 3", "some:"])

    def test_arguments_by_name(self):
        self.assertEqual(show_step(step=("join", 0, 1)), "join 0 1")
        self.assertEqual(show_pipeline(pipeline=Pipeline(BRIDGE[:1])), "window 0 3 2 1")
        self.assertEqual(show_form(form=("some", [9])), "some: 9")

    def test_no_argument_is_changed(self):
        form, told = ("classes", 6, 6, [0, 1]), list(BRIDGE)
        pipeline = Pipeline(told)
        told.append(("crop", 0, 1, 1))
        for _ in range(2):
            self.assertEqual(show_form(form), "from 6 by 6: 0 1")
            self.assertEqual(show_pipeline(pipeline), "window 0 3 2 1; window 1 3 2 1; repeat 2 4; join 3 0")
        self.assertEqual((form, pipeline.steps), (("classes", 6, 6, [0, 1]), BRIDGE))


class ShowTest(Case):

    def test_steps_of_every_word(self):
        for step, text in [(("window", 7, 9, 6, 8), "window 7 9 6 8"), (("window", 0, 1, 1, 0), "window 0 1 1 0"),
                           (("repeat", 2, 6), "repeat 2 6"), (("crop", 0, 30, 0), "crop 0 30 0"),
                           (("pad", 10, 0, 30), "pad 10 0 30"), (("join", 3, 0), "join 3 0"),
                           (("crop", 0, FAR, 0), "crop 0 1" + "0" * 33 + " 0")]:
            with self.subTest(step=step):
                self.assertEqual(show_step(step), text)
                self.assertEqual(show_pipeline(Pipeline([("pad", 0, 0, 0)] * 12 + [step])), "pad 0 0 0; " * 12 + text)

    def test_pipelines(self):
        for steps, text in [([], "-"), ([("repeat", 0, 1)], "repeat 0 1"),
                            (TWICE, "repeat 0 2; pad 0 5 5; join 1 2"),
                            (APART, "crop 0 0 20; crop 0 20 0; join 1 2"),
                            ([("repeat", 0, 1)] * 8, "; ".join(["repeat 0 1"] * 8))]:
            with self.subTest(steps=steps):
                self.assertEqual(show_pipeline(Pipeline(steps)), text)

    def test_forms(self):
        for form, text in [(("some", []), "some:"), (("some", [10]), "some: 10"),
                           (("some", [9, 10, 12]), "some: 9 10 12"), (("classes", 1, 1, [0]), "from 1 by 1: 0"),
                           (("classes", 0, 2, [0]), "from 0 by 2: 0"),
                           (("classes", 21, 6, [0, 1, 3]), "from 21 by 6: 0 1 3"),
                           (("some", [FAR, FAR + 2]), "some: 1" + "0" * 33 + " 1" + "0" * 32 + "2"),
                           (("classes", FAR, 60, [40]), "from 1" + "0" * 33 + " by 60: 40")]:
            with self.subTest(form=form):
                self.assertEqual(show_form(form), text)

    def test_forms_of_pipelines(self):
        self.assertEqual([show_form(fitting_sizes(Pipeline(steps))) for steps in (BRIDGE, TWICE, APART, [])],
                         ["from 4 by 4: 0", "some: 10", "from 21 by 1: 0", "from 1 by 1: 0"])


if __name__ == "__main__":
    unittest.main()

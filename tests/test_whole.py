"""Tests of what the document promises over the whole program [1] [2] [3] [9] [10]."""

import ast
import importlib
import random
import unittest
from pathlib import Path

import fitsizes
from fitsizes.alike import are_alike, parting_size
from fitsizes.backward import inputs_for, least_input
from fitsizes.errors import NotFitting, NotSteady
from fitsizes.fitting import count_fitting, fitting_sizes, next_fitting, nth_fitting
from fitsizes.fixes import pads_for, with_changes
from fitsizes.needs import needs, reach, reached_by
from fitsizes.pieces import greatest_piece, steady_piece, steady_step
from fitsizes.pipelines import Pipeline
from fitsizes.readings import read_pipeline
from fitsizes.sheets import Sheet
from fitsizes.sizes import fits, size_line, sizes_at, why_not
from fitsizes.streams import kept, steady_kept
from fitsizes.texts import show_pipeline
from tests.cases import Case, steady_pipelines
from tests.plain import in_form, levelled_steps, random_steps

FAR = 10 ** 33

# The functions of each file, and the methods of each class, that the interface lists.
FUNCTIONS = {
    "sizes": ["size_line", "sizes_at", "fits", "why_not"],
    "fitting": ["fitting_sizes", "next_fitting", "count_fitting", "nth_fitting"],
    "alike": ["parting_size", "are_alike"], "needs": ["needs", "reach", "reached_by"],
    "backward": ["inputs_for", "least_input"], "streams": ["kept", "steady_kept"],
    "pieces": ["steady_piece", "greatest_piece", "steady_step"], "fixes": ["with_changes", "least_fix", "pads_for"],
    "texts": ["show_step", "show_pipeline", "show_form"], "readings": ["read_step", "read_pipeline"],
}
CLASSES = {
    ("lines", "Line"): ["__init__", "starts", "rise", "__len__", "__eq__", "__add__", "at", "after", "least_at",
                        "meeting", "parting"],
    ("pipelines", "Pipeline"): ["__init__", "steps", "__len__", "__eq__", "followed_by"],
    ("sheets", "Sheet"): ["__init__", "__eq__", "pipeline", "sizes", "add", "put", "cut", "undo", "of_text"],
}


def cells_in(ranges):
    return sum(last - first + 1 for first, last in ranges)


def is_in(ranges, cell):
    return any(first <= cell <= last for first, last in ranges)


class InterfaceTest(Case):

    def test_each_name_is_defined_in_its_file(self):
        for name in FUNCTIONS:
            module = importlib.import_module("fitsizes." + name)
            for function in FUNCTIONS[name]:
                self.assertEqual(getattr(module, function).__module__, module.__name__)
        for name, kind in CLASSES:
            found = getattr(importlib.import_module("fitsizes." + name), kind)
            self.assertEqual(found.__module__, "fitsizes." + name)
            for method in CLASSES[name, kind]:
                self.assertIn(method, vars(found))

    def test_nothing_from_outside(self):
        """No clock, no random numbers, no files: only Python's whole numbers are used."""
        for file in Path(fitsizes.__file__).parent.glob("*.py"):
            for node in ast.walk(ast.parse(file.read_text(encoding="utf-8"))):
                self.assertNotIsInstance(node, ast.Import)
                if isinstance(node, ast.ImportFrom):
                    self.assertTrue(node.module == "math" or node.module.startswith("fitsizes."), (file, node.module))


class TogetherTest(Case):
    """The parts of the program tell the same."""

    def check_size(self, pipeline, size):
        form = fitting_sizes(pipeline)
        self.assertEqual(fits(pipeline, size), in_form(form, size))
        self.assertEqual(why_not(pipeline, size) is None, in_form(form, size))
        self.assertEqual(next_fitting(pipeline, size) == size, in_form(form, size))
        self.assertEqual(count_fitting(pipeline, size, size), int(in_form(form, size)))
        sheet = Sheet(pipeline)
        self.assertEqual(list(sheet.sizes(size)), sizes_at(pipeline, size))
        self.assertEqual(sheet.cut(len(pipeline)), (form, form))
        rows = range(len(pipeline) + 1)
        self.assertEqual(sizes_at(pipeline, size), [size_line(pipeline, row).at(size) for row in rows])
        for place, step in enumerate(pipeline.steps):
            if step[0] == "pad":
                self.assertEqual(in_form(pads_for(pipeline, place, size), step[3]), in_form(form, size))
                more = with_changes(pipeline, [place], (3,))
                self.assertEqual(pads_for(more, place, size), pads_for(pipeline, place, size))

    def check_fitting(self, chance, pipeline, size):
        out = sizes_at(pipeline, size)[-1]
        self.assertIn(size, inputs_for(pipeline, out))
        self.assertEqual(least_input(pipeline, out), inputs_for(pipeline, out)[0])
        self.assertEqual(nth_fitting(pipeline, count_fitting(pipeline, 1, size) - 1), size)
        for _ in range(4):
            output, cell = chance.randrange(out), chance.randrange(size)
            needed, reached = needs(pipeline, size, output, output), reach(pipeline, size, cell, cell)
            self.assertEqual(is_in(needed, cell), is_in(reached, output))
            self.assertEqual(is_in(needed, cell), reached_by(pipeline, size, output, cell))
            held = kept(pipeline, size, 0, output)
            self.assertTrue(all(is_in(held, one) for first, last in needed for one in (first, last)))
            self.assertEqual(kept(pipeline, size, len(pipeline), output), [(output, output)])

    def check_not_fitting(self, pipeline, size):
        row = why_not(pipeline, size)[1]
        for function, cells in [(needs, (0, 0)), (reach, (0, 0)), (reached_by, (0, 0)), (kept, (0, 0))]:
            self.check_raises(NotFitting, row, function, pipeline, size, *cells)

    def test_all_parts(self):
        chance = random.Random(111)
        for turn in range(150):
            steps = levelled_steps(chance)[0] if turn % 2 else random_steps(chance)
            pipeline = Pipeline(steps)
            self.assertEqual(read_pipeline(show_pipeline(pipeline)), pipeline)
            self.assertEqual(Sheet.of_text(show_pipeline(pipeline)), Sheet(pipeline))
            self.assertTrue(are_alike(pipeline, Pipeline(steps)))
            self.assertEqual(parting_size(pipeline, pipeline.followed_by(Pipeline([("pad", 0, 1, 0)]))),
                             nth_fitting(pipeline, 0))
            for size in [1, 2, chance.randint(3, 99), FAR - chance.randint(0, 99), nth_fitting(pipeline, 0)]:
                if size is None:
                    continue
                self.check_size(pipeline, size)
                if fits(pipeline, size):
                    self.check_fitting(chance, pipeline, size)
                else:
                    self.check_not_fitting(pipeline, size)
            if fitting_sizes(pipeline)[0] == "some":
                self.check_raises(NotSteady, None, steady_step, pipeline)
            self.assertEqual(pipeline.steps, steps)

    def test_steady_numbers(self):
        chance = random.Random(112)
        for _, pipeline in steady_pipelines(chance, 60):
            size = next_fitting(pipeline, FAR)
            out = sizes_at(pipeline, size)[-1]
            outputs, inputs = steady_step(pipeline)
            self.assertGreaterEqual(outputs, 1)
            self.assertGreaterEqual(size_line(pipeline, len(pipeline)).rise, 1)
            for cell in (0, out - 1, chance.randrange(out), chance.randrange(out)):
                row = chance.randint(0, len(pipeline))
                self.assertLessEqual(cells_in(kept(pipeline, size, row, cell)), steady_kept(pipeline, row))
                count = chance.randint(1, out - cell)
                self.assertLessEqual(cells_in(needs(pipeline, size, cell, cell + count - 1)),
                                     steady_piece(pipeline, count))
            # One output keeps at least what it needs itself.
            self.assertLessEqual(steady_piece(pipeline, 1), steady_kept(pipeline, 0))
            most = chance.randint(1, 10 ** chance.randint(1, 33))
            count = greatest_piece(pipeline, most)
            self.assertGreater(steady_piece(pipeline, count + 1), most)


if __name__ == "__main__":
    unittest.main()

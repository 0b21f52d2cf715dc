"""Tests of the sizes of rows and of the sizes that go through [2] [3] [5] [6] [9]."""

import inspect
import random
import unittest

from fitsizes import sizes as module
from fitsizes.errors import InvalidNumber, InvalidRow
from fitsizes.lines import Line
from fitsizes.pipelines import Pipeline
from fitsizes.sizes import fits, size_line, sizes_at, why_not
from tests.plain import APART, BRIDGE, TWICE, levelled_steps, plain_fault, plain_sizes, random_steps

FAR = 10 ** 33

ALL_WORDS = [("window", 0, 3, 2, 1), ("repeat", 1, 2), ("crop", 1, 0, 3), ("pad", 0, 4, 0), ("join", 2, 4)]
NEAR = list(range(-70, 71)) + [-1000, 999]
FAR_PLACES = [FAR - 31, FAR, 10 ** 30 + 7, -FAR, -FAR + 13]


class SizesCase(unittest.TestCase):

    def check_raises(self, error, value, function, *args, **named):
        with self.subTest(function=function.__name__, args=args, named=named):
            with self.assertRaises(error) as caught:
                function(*args, **named)
            self.assertIs(type(caught.exception), error)
            self.assertEqual(caught.exception.value, value)


class InterfaceTest(SizesCase):

    def test_names_and_arguments(self):
        for name, told in [("size_line", ["pipeline", "row"]), ("sizes_at", ["pipeline", "size"]),
                           ("fits", ["pipeline", "size"]), ("why_not", ["pipeline", "size"])]:
            with self.subTest(name=name):
                function = getattr(module, name)
                self.assertEqual(function.__module__, "fitsizes.sizes")
                self.assertEqual(list(inspect.signature(function).parameters), told)

    def test_example_of_the_document(self):
        bridge = Pipeline(BRIDGE)
        self.assertEqual(
            [sizes_at(bridge, 8), sizes_at(bridge, 6), fits(bridge, 8), why_not(bridge, 6),
             size_line(bridge, 2).starts, why_not(Pipeline([("crop", 0, 2, 1)]), 3)],
            [[8, 4, 2, 8, 8], [6, 3, 2, 8, 8], True, ("join", 4, 8, 6), [0, 1, 1, 1], ("small", 1, 0)])

    def test_arguments_by_name(self):
        bridge = Pipeline(BRIDGE)
        self.assertEqual(size_line(row=2, pipeline=bridge), size_line(bridge, 2))
        self.assertEqual(sizes_at(size=6, pipeline=bridge), sizes_at(bridge, 6))
        self.assertIs(fits(size=8, pipeline=bridge), True)
        self.assertEqual(why_not(size=6, pipeline=bridge), ("join", 4, 8, 6))
        self.check_raises(InvalidRow, 5, size_line, row=5, pipeline=bridge)
        for function in (sizes_at, fits, why_not):
            self.check_raises(InvalidNumber, 0, function, size=0, pipeline=bridge)

    def test_no_argument_is_changed_and_told_lists_are_not_kept(self):
        told = list(BRIDGE)
        pipeline = Pipeline(told)
        told[:] = [("crop", 0, 9, 9)]
        self.assertEqual(sizes_at(pipeline, 8), [8, 4, 2, 8, 8])
        self.assertEqual((fits(pipeline, 8), why_not(pipeline, 6)), (True, ("join", 4, 8, 6)))
        self.assertEqual(size_line(pipeline, 2), Line([0, 1, 1, 1], 1))
        pipeline.steps.append(("crop", 0, 9, 9))
        self.assertEqual(sizes_at(pipeline, 8), [8, 4, 2, 8, 8])
        self.assertEqual(pipeline, Pipeline(BRIDGE))


class LineTest(SizesCase):

    def check_lines(self, steps):
        pipeline = Pipeline(steps)
        lines = [size_line(pipeline, row) for row in range(len(steps) + 1)]
        for line in lines:
            self.assertIs(type(line), Line)
            self.assertGreaterEqual(line.rise, 1)
        for place in NEAR + FAR_PLACES:
            self.assertEqual([line.at(place) for line in lines], plain_sizes(steps, place), (steps, place))

    def check_least_form(self, line):
        """No lesser period than the line's own, by trying all of them."""
        for period in range(1, len(line)):
            gain = line.at(period) - line.at(0)
            self.assertFalse(all(line.at(n + period) - line.at(n) == gain for n in range(len(line))), line.starts)

    def test_each_word(self):
        for step, starts, rise in [(("window", 0, 3, 2, 0), [-1, 0], 1), (("window", 0, 3, 2, 1), [0, 1], 1),
                                   (("window", 0, 4, 2, 0), [-1, -1], 1), (("window", 0, 1, 1, 0), [0], 1),
                                   (("window", 0, 9, 6, 8), [2, 2, 2, 2, 2, 3], 1), (("window", 0, 5, 1, 0), [-4], 1),
                                   (("window", 0, 3, 3, 0), [0, 0, 0], 1), (("repeat", 0, 1), [0], 1),
                                   (("repeat", 0, 6), [0], 6), (("crop", 0, 2, 5), [-7], 1),
                                   (("crop", 0, 0, 0), [0], 1), (("pad", 0, 2, 5), [7], 1),
                                   (("pad", 0, 0, 30), [30], 1)]:
            with self.subTest(step=step):
                line = size_line(Pipeline([step]), 1)
                self.assertEqual((line.starts, line.rise), (starts, rise))
                self.check_lines([step])

    def test_joins_have_the_size_of_their_row(self):
        pipeline = Pipeline([("repeat", 0, 2), ("join", 1, 0), ("join", 0, 1), ("crop", 2, 1, 0)])
        self.assertEqual([size_line(pipeline, row).starts for row in range(5)], [[0], [0], [0], [0], [-1]])
        self.assertEqual([size_line(pipeline, row).rise for row in range(5)], [1, 2, 2, 1, 2])

    def test_row_0_and_a_pipeline_without_steps(self):
        for steps in ([], BRIDGE, [("repeat", 0, 5)], [("window", 0, 9, 4, 3)]):
            line = size_line(Pipeline(steps), 0)
            self.assertEqual((line.starts, line.rise), ([0], 1))
        self.check_lines([])

    def test_lines_step_by_step(self):
        bridge = Pipeline(BRIDGE)
        lines = [size_line(bridge, row) for row in range(5)]
        self.assertEqual([(line.starts, line.rise) for line in lines],
                         [([0], 1), ([0, 1], 1), ([0, 1, 1, 1], 1), ([0, 4, 4, 4], 4), ([0, 4, 4, 4], 4)])

    def test_least_forms(self):
        pipeline = Pipeline([("window", 0, 2, 2, 0), ("repeat", 1, 2), ("window", 2, 2, 2, 0)])
        self.assertEqual([(line.starts, line.rise) for line in [size_line(pipeline, row) for row in range(4)]],
                         [([0], 1), ([0, 0], 1), ([0, 0], 2), ([0, 0], 1)])
        pipeline = Pipeline([("repeat", 0, 6), ("window", 1, 3, 3, 0), ("window", 2, 2, 2, 0)])
        self.assertEqual([(line.starts, line.rise) for line in [size_line(pipeline, row) for row in (2, 3)]],
                         [([0], 2), ([0], 1)])

    def test_random_pipelines(self):
        chance = random.Random(11)
        for _ in range(150):
            steps = random_steps(chance)
            self.check_lines(steps)
            for row in range(len(steps) + 1):
                self.check_least_form(size_line(Pipeline(steps), row))

    def test_the_longest_periods(self):
        steps = [("window", 0, 6, 5, 2), ("window", 1, 4, 3, 1), ("window", 2, 2, 2, 1), ("window", 3, 2, 2, 0),
                 ("repeat", 4, 6), ("repeat", 5, 4), ("crop", 6, 30, 30), ("pad", 7, 30, 0)]
        self.assertEqual(len(size_line(Pipeline(steps), 8)), 60)
        self.check_lines(steps)

    def test_row_check(self):
        for steps in ([], BRIDGE, TWICE, APART, ALL_WORDS):
            pipeline = Pipeline(steps)
            for row in range(len(steps) + 1):
                size_line(pipeline, row)
            for row in (-1, -2, len(steps) + 1, len(steps) + 2, FAR, -FAR):
                self.check_raises(InvalidRow, row, size_line, pipeline, row)
                self.check_raises(InvalidRow, row, size_line, pipeline=pipeline, row=row)
            self.assertEqual(pipeline.steps, steps)

    def test_each_call_gives_its_own_starts(self):
        pipeline = Pipeline(BRIDGE)
        size_line(pipeline, 2).starts.append(9)
        self.assertEqual(size_line(pipeline, 2).starts, [0, 1, 1, 1])


class SizesAtTest(SizesCase):

    def test_sizes_that_fit_and_that_do_not(self):
        for steps, size, told in [(BRIDGE, 4, [4, 2, 1, 4, 4]), (BRIDGE, 1, [1, 1, 1, 4, 4]),
                                  (TWICE, 10, [10, 20, 20, 20]), (TWICE, 1, [1, 2, 11, 2]), ([], 7, [7]),
                                  (APART, 40, [40, 20, 20, 20]), (APART, 1, [1, -19, -19, -19]),
                                  ([("crop", 0, 0, 3), ("repeat", 1, 6), ("pad", 2, 4, 9)], 1, [1, -2, -12, 1]),
                                  ([("window", 0, 9, 4, 0)], 1, [1, -1]), ([("window", 0, 9, 4, 0)], 5, [5, 0]),
                                  ([("window", 0, 9, 4, 0)], 4, [4, -1]), ([("crop", 0, 30, 30)], 60, [60, 0])]:
            with self.subTest(steps=steps, size=size):
                self.assertEqual(sizes_at(Pipeline(steps), size), told)

    def test_by_the_lines_near_and_far(self):
        chance = random.Random(12)
        for _ in range(200):
            steps = random_steps(chance)
            pipeline = Pipeline(steps)
            lines = [size_line(pipeline, row) for row in range(len(steps) + 1)]
            for size in [1, 2, 3, chance.randint(1, 200), 10 ** 30, FAR - chance.randint(0, 99), FAR]:
                sizes = sizes_at(pipeline, size)
                self.assertEqual(sizes, plain_sizes(steps, size), (steps, size))
                self.assertEqual(sizes, [line.at(size) for line in lines])
                self.assertEqual({type(cells) for cells in sizes}, {int})

    def test_a_new_list_each_time(self):
        pipeline = Pipeline(BRIDGE)
        first = sizes_at(pipeline, 8)
        self.assertIs(type(first), list)
        first[0] = 0
        first.append(9)
        self.assertEqual(sizes_at(pipeline, 8), [8, 4, 2, 8, 8])
        empty = Pipeline([])
        sizes_at(empty, 3).append(1)
        self.assertEqual(sizes_at(empty, 3), [3])

    def test_size_check(self):
        for steps in ([], BRIDGE, APART, [("pad", 0, 9, 9)]):
            pipeline = Pipeline(steps)
            for function in (sizes_at, fits, why_not):
                for size in (0, -1, -7, -FAR):
                    self.check_raises(InvalidNumber, size, function, pipeline, size)
                function(pipeline, 1)
                function(pipeline, FAR)
            self.assertEqual(pipeline.steps, steps)


class FaultTest(SizesCase):

    def check_fault(self, steps, size, fault):
        with self.subTest(steps=steps, size=size):
            self.assertEqual(why_not(Pipeline(steps), size), fault)
            self.assertIs(type(why_not(Pipeline(steps), size)), type(fault))
            self.assertIs(fits(Pipeline(steps), size), fault is None)

    def test_every_word_at_fault(self):
        self.check_fault([("window", 0, 3, 2, 0)], 2, ("small", 1, 0))
        self.check_fault([("window", 0, 3, 2, 0)], 3, None)
        self.check_fault([("window", 0, 9, 1, 1)], 1, ("small", 1, -5))
        self.check_fault([("window", 0, 3, 3, 1)], 1, None)
        self.check_fault([("crop", 0, 3, 0)], 3, ("small", 1, 0))
        self.check_fault([("crop", 0, 0, 3)], 1, ("small", 1, -2))
        self.check_fault([("crop", 0, 2, 1)], 4, None)
        self.check_fault([("repeat", 0, 4), ("crop", 1, 2, 3), ("repeat", 2, 3)], 1, ("small", 2, -1))
        self.check_fault([("repeat", 0, 1)], 1, None)
        self.check_fault([("pad", 0, 0, 0)], 1, None)
        self.check_fault([("repeat", 0, 2), ("join", 0, 1)], 5, ("join", 2, 5, 10))
        self.check_fault([("repeat", 0, 2), ("join", 1, 0)], 5, ("join", 2, 10, 5))
        self.check_fault([("repeat", 0, 1), ("join", 1, 0)], 5, None)

    def test_a_row_that_no_other_uses_is_at_fault(self):
        self.check_fault([("crop", 0, 3, 3), ("pad", 0, 1, 1)], 6, ("small", 1, 0))
        self.check_fault([("crop", 0, 3, 3), ("pad", 0, 1, 1)], 7, None)
        self.check_fault([("crop", 0, 9, 0), ("pad", 1, 30, 0)], 4, ("small", 1, -5))

    def test_the_first_row_of_several(self):
        small_first = [("crop", 0, 0, 4), ("repeat", 0, 2), ("join", 2, 0), ("crop", 0, 9, 0)]
        self.check_fault(small_first, 4, ("small", 1, 0))
        self.check_fault(small_first, 5, ("join", 3, 10, 5))
        join_first = [("repeat", 0, 2), ("join", 1, 0), ("crop", 0, 0, 4)]
        self.check_fault(join_first, 4, ("join", 2, 8, 4))
        self.check_fault([("crop", 0, 1, 0), ("crop", 0, 5, 0), ("crop", 0, 9, 0)], 5, ("small", 2, 0))
        self.check_fault([("crop", 0, 9, 0), ("crop", 0, 5, 0)], 5, ("small", 1, -4))
        two = [("pad", 0, 1, 0), ("pad", 0, 2, 0), ("join", 1, 2), ("join", 0, 1)]
        self.check_fault(two, 3, ("join", 3, 4, 5))

    def test_joins_of_small_rows(self):
        small = [("crop", 0, 4, 0), ("join", 1, 0)]
        self.check_fault(small, 3, ("small", 1, -1))
        self.check_fault(small, 4, ("small", 1, 0))
        self.check_fault(small, 5, ("join", 2, 1, 5))
        self.check_fault([("crop", 0, 4, 0), ("join", 0, 1)], 4, ("small", 1, 0))
        equal = [("crop", 0, 0, 4), ("crop", 0, 4, 0), ("join", 1, 2)]
        self.check_fault(equal, 2, ("small", 1, -2))
        self.check_fault(equal, 5, None)

    def test_far_sizes(self):
        self.check_fault(TWICE, FAR, ("join", 3, 2 * FAR, FAR + 10))
        self.check_fault(BRIDGE, FAR, None)
        self.check_fault(BRIDGE, FAR - 1, ("join", 4, FAR, FAR - 1))
        self.check_fault([], FAR, None)
        self.check_fault([], 1, None)
        self.check_fault([("crop", 0, FAR, 0)], FAR, ("small", 1, 0))
        self.check_fault([("crop", 0, FAR, 0)], FAR + 1, None)

    def test_as_the_words_say(self):
        chance = random.Random(13)
        for turn in range(300):
            steps = random_steps(chance) if turn % 2 else levelled_steps(chance)[0]
            pipeline = Pipeline(steps)
            for size in list(range(1, 70)) + [FAR - chance.randint(0, 60)]:
                fault = plain_fault(steps, size)
                self.assertEqual(why_not(pipeline, size), fault, (steps, size))
                self.assertIs(fits(pipeline, size), fault is None)


if __name__ == "__main__":
    unittest.main()

"""Tests of the input cells that neighbouring outputs need together [2] [3] [6] [8] [9] [10]."""

import random
import time
import unittest
from math import gcd

from fitsizes import pieces as module
from fitsizes.errors import InvalidNumber, NotSteady
from fitsizes.fitting import next_fitting
from fitsizes.needs import needs
from fitsizes.pieces import greatest_piece, steady_piece, steady_step
from fitsizes.pipelines import Pipeline
from fitsizes.sizes import size_line, sizes_at
from tests.cases import Case, steady_pipelines
from tests.plain import APART, BRIDGE, TWICE, plain_fits, plain_needs, plain_piece, plain_sizes

FAR = 10 ** 33

WINDOW = [("window", 0, 3, 2, 0)]
NEVER = [("pad", 0, 1, 0), ("join", 0, 1)]
# Two holes in what one output needs: j, j + 8, j + 20 and j + 28.
HOLES = [("crop", 0, 0, 20), ("crop", 0, 20, 0), ("join", 1, 2), ("crop", 3, 0, 8), ("crop", 3, 8, 0), ("join", 4, 5)]
# 6 outputs for each 5 inputs, by way of 30 cells.
SIX_FOR_FIVE = [("repeat", 0, 6), ("window", 1, 5, 5, 0)]


class InterfaceTest(Case):

    def test_names_and_arguments(self):
        self.check_functions(module, {"steady_piece": ["pipeline", "count"], "greatest_piece": ["pipeline", "most"],
                                      "steady_step": ["pipeline"]})

    def test_example_of_the_document(self):
        bridge, window = Pipeline(BRIDGE), Pipeline(WINDOW)
        self.assertEqual([steady_piece(bridge, 6), greatest_piece(bridge, 11), steady_step(window),
                          greatest_piece(window, 10)], [15, 5, (1, 2), 4])

    def test_arguments_by_name(self):
        bridge = Pipeline(BRIDGE)
        self.assertEqual(steady_piece(count=6, pipeline=bridge), 15)
        self.assertEqual(greatest_piece(most=11, pipeline=bridge), 5)
        self.assertEqual(steady_step(pipeline=bridge), (1, 1))
        self.check_raises(InvalidNumber, 0, steady_piece, count=0, pipeline=bridge)
        self.check_raises(InvalidNumber, -5, greatest_piece, most=-5, pipeline=bridge)
        self.check_raises(NotSteady, None, steady_step, pipeline=Pipeline(TWICE))

    def test_no_argument_is_changed_and_told_lists_are_not_kept(self):
        told = list(APART)
        pipeline = Pipeline(told)
        told[:] = [("crop", 0, 9, 9)]
        self.assertEqual([steady_piece(pipeline, 3), greatest_piece(pipeline, 7), steady_step(pipeline)],
                         [6, 3, (1, 1)])
        self.assertIs(type(steady_step(pipeline)), tuple)
        self.assertEqual(pipeline.steps, APART)


class PieceTest(Case):

    def check_pieces(self, steps, told):
        """told: the number of input cells by the count of outputs."""
        for count in told:
            with self.subTest(steps=steps, count=count):
                self.assertEqual(steady_piece(Pipeline(steps), count), told[count])

    def test_each_word(self):
        self.check_pieces([], {1: 1, 2: 2, 9: 9, FAR: FAR})
        self.check_pieces([("window", 0, 9, 6, 4)], {1: 9, 2: 15, 3: 21, FAR: 6 * FAR + 3})
        self.check_pieces([("window", 0, 4, 4, 0)], {1: 4, 2: 8, FAR: 4 * FAR})
        self.check_pieces([("window", 0, 5, 1, 4)], {1: 5, 2: 6, FAR: FAR + 4})
        self.check_pieces([("crop", 0, 3, 4)], {1: 1, 2: 2, FAR: FAR})
        self.check_pieces([("pad", 0, 30, 4)], {1: 1, 2: 2, 31: 31, FAR: FAR})
        self.check_pieces([("repeat", 0, 1), ("join", 1, 0)], {1: 1, 2: 2, FAR: FAR})

    def test_the_place_in_a_round_counts(self):
        self.check_pieces([("repeat", 0, 4)], {1: 1, 2: 2, 4: 2, 5: 2, 6: 3, 9: 3, 10: 4, 4 * FAR + 1: FAR + 1,
                                               4 * FAR + 2: FAR + 2})
        self.check_pieces(BRIDGE, {1: 7, 2: 11, 4: 11, 5: 11, 6: 15, 9: 15, 10: 19, 4 * FAR: 4 * FAR + 7,
                                   4 * FAR + 1: 4 * FAR + 7, 4 * FAR + 2: 4 * FAR + 11})
        # 5 cells of row 1 for each output, and 6 of them are the same input cell.
        self.check_pieces(SIX_FOR_FIVE, {1: 2, 2: 3, 3: 4, 4: 5, 5: 5, 6: 6, 7: 7, 6 * FAR: 5 * FAR + 1,
                                         6 * FAR + 1: 5 * FAR + 2})

    def test_joins_that_leave_holes(self):
        self.check_pieces(APART, {1: 2, 2: 4, 19: 38, 20: 40, 21: 41, 22: 42, FAR: FAR + 20})
        self.check_pieces(HOLES, {1: 4, 2: 8, 7: 28, 8: 32, 9: 34, 10: 36, 12: 40, 13: 41, FAR: FAR + 28})
        # Two halves far apart, by a window each.
        halves = [("crop", 0, 0, 30), ("crop", 0, 30, 0), ("join", 1, 2), ("window", 3, 3, 2, 1)]
        self.check_pieces(halves, {1: 6, 2: 10, 14: 58, 15: 61, 16: 63, FAR: 2 * FAR + 31})

    def test_holes_that_depend_on_the_place(self):
        # Output j needs the three cells of the window that j lies in, and the cell j + 6.
        steps = [("window", 0, 3, 3, 0), ("repeat", 1, 3), ("crop", 2, 0, 6), ("crop", 0, 6, 0), ("join", 3, 4)]
        self.check_pieces(steps, {1: 4, 2: 8, 3: 9, 4: 10, 5: 13, 6: 14, 7: 15, 8: 16, FAR * 3: FAR * 3 + 8})

    def compared(self, steps, count):
        """The greatest need of so many neighbouring outputs, by needs, over all places of 60 outputs far away."""
        pipeline = Pipeline(steps)
        size = next_fitting(pipeline, 10 ** 36)
        middle = sizes_at(pipeline, size)[-1] // 2 - count // 2
        pieces = [needs(pipeline, size, middle + more, middle + more + count - 1) for more in range(60)]
        return max(sum(last - first + 1 for first, last in ranges) for ranges in pieces)

    def test_compared_with_needs_far_from_both_ends(self):
        chance = random.Random(71)
        for steps, pipeline in steady_pipelines(chance, 60):
            for count in (1, 2, chance.randint(3, 9), chance.randint(10, 99), chance.randint(100, 9999), FAR,
                          chance.randint(10 ** 20, FAR)):
                self.assertEqual(steady_piece(pipeline, count), self.compared(steps, count), (steps, count))

    def test_compared_with_going_cell_by_cell(self):
        chance = random.Random(72)
        equal = 0
        for steps, pipeline in steady_pipelines(chance, 80):
            sizes = [size for size in range(1, 220) if plain_fits(steps, size) and max(plain_sizes(steps, size)) < 700]
            if not sizes:
                continue
            counts = [1, 2, 3, chance.randint(4, 12), chance.randint(4, 40)]
            steady = [steady_piece(pipeline, count) for count in counts]
            self.assertEqual(sorted(steady[:3]), steady[:3])
            for size in {sizes[-1], chance.choice(sizes)}:
                table = plain_needs(steps, size)
                found = [plain_piece(table, count) for count in counts]
                self.assertTrue(all(one <= most for one, most in zip(found, steady)), (steps, size, found, steady))
                equal += size == sizes[-1] and found == steady
        self.assertGreater(equal, 60)

    def test_whole_rounds_more(self):
        for steps in (BRIDGE, APART, HOLES, SIX_FOR_FIVE, WINDOW, [("repeat", 0, 6)]):
            pipeline = Pipeline(steps)
            outputs, inputs = steady_step(pipeline)
            turns = 12 * (10 ** 20 + 7)
            for count in range(60, 80):
                self.assertEqual(steady_piece(pipeline, count + turns * outputs),
                                 steady_piece(pipeline, count) + turns * inputs)


class GreatestTest(Case):

    def check_greatest(self, steps, told):
        """told: the greatest count by the number of cells."""
        for most in told:
            with self.subTest(steps=steps, most=most):
                self.assertEqual(greatest_piece(Pipeline(steps), most), told[most])

    def test_some(self):
        self.check_greatest([], {1: 1, 2: 2, 9: 9, FAR: FAR})
        self.check_greatest(WINDOW, {1: 0, 2: 0, 3: 1, 4: 1, 5: 2, 6: 2, 7: 3, 2 * FAR + 1: FAR, 2 * FAR: FAR - 1})
        self.check_greatest([("repeat", 0, 4)], {1: 1, 2: 5, 3: 9, FAR: 4 * FAR - 3})
        self.check_greatest(BRIDGE, {1: 0, 6: 0, 7: 1, 10: 1, 11: 5, 14: 5, 15: 9, 4 * FAR + 3: 4 * FAR - 3})
        self.check_greatest(APART, {1: 0, 2: 1, 3: 1, 4: 2, 39: 19, 40: 20, 41: 21, 42: 22, FAR: FAR - 20})
        self.check_greatest(HOLES, {3: 0, 4: 1, 7: 1, 8: 2, 33: 8, 34: 9, 40: 12, 41: 13, FAR: FAR - 28})

    def test_exactly_the_greatest(self):
        chance = random.Random(73)
        none = 0
        for _, pipeline in steady_pipelines(chance, 100):
            for most in [1, 2, 3, 5, 9, 17, 30, chance.randint(31, 200), chance.randint(10 ** 20, FAR), FAR]:
                count = greatest_piece(pipeline, most)
                self.assertGreaterEqual(count, 0)
                if count > 0:
                    self.assertLessEqual(steady_piece(pipeline, count), most, (pipeline.steps, most))
                self.assertGreater(steady_piece(pipeline, count + 1), most, (pipeline.steps, most))
                none += count == 0
        self.assertGreater(none, 50)

    def test_in_a_short_time(self):
        steps = [("window", 0, 9, 5, 2), ("repeat", 1, 5), ("pad", 0, 0, 30), ("crop", 3, 30, 0), ("join", 0, 4),
                 ("crop", 5, 0, 20), ("crop", 5, 20, 0), ("join", 6, 7)]
        unused = [("window", 0, 6, 5, 0), ("window", 1, 4, 4, 0), ("window", 2, 3, 3, 0), ("repeat", 0, 6),
                  ("repeat", 4, 4)]
        rounds = [("window", 0, 5, 5, 0), ("repeat", 1, 5), ("window", 0, 4, 4, 0), ("repeat", 3, 4), ("join", 2, 4),
                  ("window", 5, 3, 3, 0)]
        began = time.process_time()
        for steps in (steps, unused, rounds):
            for _ in range(10):
                steady_piece(Pipeline(steps), FAR)
                greatest_piece(Pipeline(steps), FAR)
                steady_step(Pipeline(steps))
        self.assertLess(time.process_time() - began, 10)


class StepTest(Case):

    def test_lowest_terms(self):
        for steps, told in [([], (1, 1)), (WINDOW, (1, 2)), (BRIDGE, (1, 1)), (APART, (1, 1)), (SIX_FOR_FIVE, (6, 5)),
                            ([("repeat", 0, 6)], (6, 1)), ([("pad", 0, 3, 3)], (1, 1)), ([("crop", 0, 9, 0)], (1, 1)),
                            ([("window", 0, 6, 6, 0), ("repeat", 1, 4)], (2, 3)),
                            ([("repeat", 0, 4), ("window", 1, 6, 6, 0)], (2, 3)),
                            ([("window", 0, 4, 4, 0), ("repeat", 1, 2), ("window", 2, 3, 3, 0)], (1, 6)),
                            ([("window", 0, 5, 5, 0), ("window", 1, 4, 4, 0), ("window", 2, 3, 3, 0)], (1, 60)),
                            ([("repeat", 0, 6), ("repeat", 1, 4), ("window", 0, 7, 5, 0)], (1, 5)),
                            ([("repeat", 0, 6), ("repeat", 1, 4), ("window", 2, 7, 5, 0)], (24, 5))]:
            with self.subTest(steps=steps):
                self.assertEqual(steady_step(Pipeline(steps)), told)

    def test_by_the_line_of_the_output(self):
        chance = random.Random(74)
        for steps, pipeline in steady_pipelines(chance, 80):
            outputs, inputs = steady_step(pipeline)
            self.assertEqual(gcd(outputs, inputs), 1)
            line = size_line(pipeline, len(steps))
            self.assertEqual(line.at(3 + 21600 * inputs) - line.at(3), 21600 * outputs)


class ErrorsTest(Case):

    def test_steady_check_first(self):
        for steps in (TWICE, NEVER, [("repeat", 0, 2), ("join", 1, 0)],
                      [("window", 0, 2, 2, 0), ("pad", 1, 5, 0), ("join", 0, 2)]):
            pipeline = Pipeline(steps)
            for number in (1, 0, -1, -FAR, FAR):
                self.check_raises(NotSteady, None, steady_piece, pipeline, number)
                self.check_raises(NotSteady, None, greatest_piece, pipeline, number)
            self.check_raises(NotSteady, None, steady_step, pipeline)

    def test_numbers_below_1(self):
        for steps in ([], BRIDGE, APART, WINDOW):
            for function in (steady_piece, greatest_piece):
                for number in (0, -1, -7, -FAR):
                    self.check_raises(InvalidNumber, number, function, Pipeline(steps), number)
                function(Pipeline(steps), 1)
                function(Pipeline(steps), FAR)
            steady_step(Pipeline(steps))


if __name__ == "__main__":
    unittest.main()

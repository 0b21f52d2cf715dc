"""Tests of the sizes that give an output [2] [3] [6] [7]."""

import random
import time
import unittest

from fitsizes import backward as module
from fitsizes.backward import inputs_for, least_input
from fitsizes.errors import InvalidNumber
from fitsizes.fitting import fitting_sizes
from fitsizes.pipelines import Pipeline
from tests.cases import Case
from tests.plain import (APART, BRIDGE, TWICE, levelled_steps, plain_output, random_steps, steady_steps,
                         two_round_steps)

FAR = 10 ** 33

# n // 2 + 5 == n for 9 and 10, with an output of n // 2 or of n.
TWO = [("window", 0, 2, 2, 0), ("pad", 1, 5, 0), ("join", 0, 2)]
TWO_HALVED = TWO + [("window", 3, 2, 2, 0)]
# 2 * (n // 2) == n, with an output of n // 6.
EVEN_SIXTH = [("window", 0, 2, 2, 0), ("repeat", 1, 2), ("join", 0, 2), ("window", 0, 6, 6, 0)]
NEVER = [("pad", 0, 1, 0), ("join", 0, 1)]


class InterfaceTest(Case):

    def test_names_and_arguments(self):
        self.check_functions(module, {"inputs_for": ["pipeline", "output"], "least_input": ["pipeline", "output"]})

    def test_example_of_the_document(self):
        bridge, window = Pipeline(BRIDGE), Pipeline([("window", 0, 3, 2, 1)])
        self.assertEqual([inputs_for(window, 4), least_input(bridge, 10 ** 30 + 1) - 10 ** 30], [[7, 8], 4])

    def test_arguments_by_name(self):
        window = Pipeline([("window", 0, 3, 2, 1)])
        self.assertEqual(inputs_for(output=4, pipeline=window), [7, 8])
        self.assertEqual(least_input(output=4, pipeline=window), 7)
        self.check_raises(InvalidNumber, 0, inputs_for, output=0, pipeline=window)
        self.check_raises(InvalidNumber, -4, least_input, output=-4, pipeline=window)

    def test_no_argument_is_changed_and_returned_lists_are_new(self):
        for steps, output, sizes in [([("window", 0, 3, 2, 1)], 4, [7, 8]), (TWO_HALVED, 4, [9]), (NEVER, 4, []),
                                     ([], 4, [4]), (EVEN_SIXTH, 1, [6, 8, 10])]:
            told = list(steps)
            pipeline = Pipeline(told)
            told[:] = [("crop", 0, 9, 9)]
            first = inputs_for(pipeline, output)
            self.assertIs(type(first), list)
            first.append(0)
            first.reverse()
            self.assertEqual(inputs_for(pipeline, output), sizes)
            least_input(pipeline, output)
            self.assertEqual(pipeline.steps, steps)


class NearTest(Case):

    def check_inputs(self, steps, told):
        """told: the sizes and the least one by the output."""
        for output in told:
            with self.subTest(steps=steps, output=output):
                pipeline = Pipeline(steps)
                self.assertEqual((inputs_for(pipeline, output), least_input(pipeline, output)), told[output])

    def test_each_word(self):
        self.check_inputs([], {1: ([1], 1), 9: ([9], 9)})
        self.check_inputs([("window", 0, 3, 2, 0)], {1: ([3, 4], 3), 2: ([5, 6], 5), 9: ([19, 20], 19)})
        self.check_inputs([("window", 0, 9, 6, 8)], {1: ([], 1), 2: ([1, 2, 3, 4], 1), 3: ([5, 6, 7, 8, 9, 10], 5)})
        self.check_inputs([("repeat", 0, 3)], {1: ([], 1), 2: ([], 1), 3: ([1], 1), 4: ([], 2), 5: ([], 2),
                                               6: ([2], 2)})
        self.check_inputs([("crop", 0, 2, 1)], {1: ([4], 4), 5: ([8], 8)})
        self.check_inputs([("pad", 0, 2, 1)], {1: ([], 1), 3: ([], 1), 4: ([1], 1), 5: ([2], 2)})

    def test_outputs_that_are_jumped_over(self):
        self.check_inputs([("window", 0, 3, 2, 1), ("repeat", 1, 4)],
                          {1: ([], 1), 4: ([1, 2], 1), 5: ([], 3), 7: ([], 3), 8: ([3, 4], 3), 9: ([], 5)})
        self.check_inputs(BRIDGE, {1: ([], 4), 3: ([], 4), 4: ([4], 4), 5: ([], 8), 6: ([], 8), 8: ([8], 8)})

    def test_sizes_that_give_the_output_but_do_not_fit(self):
        self.check_inputs(EVEN_SIXTH, {1: ([6, 8, 10], 6), 2: ([12, 14, 16], 12)})
        odd = [("window", 0, 2, 2, 0), ("repeat", 1, 2), ("crop", 0, 0, 1), ("join", 2, 3), ("window", 0, 6, 6, 0)]
        self.check_inputs(odd, {1: ([7, 9, 11], 7), 2: ([13, 15, 17], 13)})
        # 4 cells from 8 and 9, but only sizes that 6 divides fit.
        sixths = [("window", 0, 6, 6, 0), ("repeat", 1, 6), ("join", 0, 2), ("window", 0, 2, 2, 0)]
        self.check_inputs(sixths, {1: ([], 6), 3: ([6], 6), 4: ([], 12), 5: ([], 12), 6: ([12], 12), 7: ([], 18)})
        # The crop of another row leaves no cells until there are 12.
        self.check_inputs([("crop", 0, 12, 0), ("window", 0, 4, 4, 0)], {1: ([], 13), 3: ([13, 14, 15], 13),
                                                                         4: ([16, 17, 18, 19], 16)})

    def test_lists(self):
        self.check_inputs(TWO, {1: ([], 9), 8: ([], 9), 9: ([9], 9), 10: ([10], 10), 11: ([], None), 30: ([], None)})
        self.check_inputs(TWO_HALVED, {1: ([], 9), 4: ([9], 9), 5: ([10], 10), 6: ([], None)})
        self.check_inputs(TWO + [("window", 0, 9, 6, 0)], {1: ([9, 10], 9), 2: ([], None)})
        self.check_inputs(TWO + [("window", 0, 6, 4, 2)], {1: ([], 9), 2: ([9], 9), 3: ([10], 10), 4: ([], None)})
        self.check_inputs(TWICE, {1: ([], 10), 19: ([], 10), 20: ([10], 10), 21: ([], None)})
        self.check_inputs(NEVER, {1: ([], None), 5: ([], None)})

    def test_compared_with_going_through_many_sizes(self):
        chance = random.Random(51)
        seen = set()
        for turn in range(240):
            steps = [random_steps, steady_steps, lambda c: levelled_steps(c)[0],
                     lambda c: two_round_steps(c, c.randint(1, 40))][turn % 4](chance)
            pipeline = Pipeline(steps)
            outputs = {size: plain_output(steps, size) for size in range(1, 250)}
            word = fitting_sizes(pipeline)[0]
            for output in list(range(1, 12)) + [chance.randint(12, 90) for _ in range(3)]:
                sizes = [size for size in outputs if outputs[size] == output]
                told = inputs_for(pipeline, output)
                self.assertEqual([size for size in told if size < 250], sizes, (steps, output))
                self.assertEqual(told, sorted(set(told)))
                self.assertTrue(all(plain_output(steps, size) == output for size in told))
                seen.add((word, "inputs", min(len(told), 2)))
                enough = [size for size in outputs if outputs[size] is not None and outputs[size] >= output]
                least = least_input(pipeline, output)
                if enough or least is None or least < 250:
                    self.assertEqual(least, enough[0] if enough else None, (steps, output))
                else:
                    self.assertGreaterEqual(plain_output(steps, least), output)
                seen.add((word, "least", least is None, least is not None and least in told))
        for kind in [("some", "inputs", 0), ("some", "inputs", 1), ("classes", "inputs", 0), ("classes", "inputs", 1),
                     ("classes", "inputs", 2), ("some", "least", True, False), ("some", "least", False, False),
                     ("some", "least", False, True), ("classes", "least", False, False),
                     ("classes", "least", False, True)]:
            self.assertIn(kind, seen)


class FarTest(Case):

    def test_far_outputs(self):
        window = Pipeline([("window", 0, 3, 2, 1)])
        self.assertEqual(inputs_for(window, FAR), [2 * FAR - 1, 2 * FAR])
        self.assertEqual(least_input(window, FAR), 2 * FAR - 1)
        self.assertEqual(inputs_for(Pipeline([("pad", 0, 7, 0)]), FAR), [FAR - 7])
        bridge = Pipeline(BRIDGE)
        self.assertEqual([inputs_for(bridge, FAR + more) for more in range(5)], [[FAR], [], [], [], [FAR + 4]])
        self.assertEqual([least_input(bridge, FAR + more) for more in (-1, 0, 1, 4, 5)],
                         [FAR, FAR, FAR + 4, FAR + 4, FAR + 8])
        sixth = Pipeline(EVEN_SIXTH)
        self.assertEqual(inputs_for(sixth, FAR), [6 * FAR, 6 * FAR + 2, 6 * FAR + 4])
        self.assertEqual(least_input(sixth, FAR), 6 * FAR)
        six = Pipeline([("repeat", 0, 6), ("pad", 1, 1, 0)])
        self.assertEqual(inputs_for(six, 6 * FAR + 1), [FAR])
        self.assertEqual(inputs_for(six, 6 * FAR), [])
        self.assertEqual(least_input(six, 6 * FAR + 2), FAR + 1)
        self.assertEqual((inputs_for(Pipeline(TWO), FAR), least_input(Pipeline(TWO), FAR)), ([], None))
        self.assertEqual((inputs_for(Pipeline(NEVER), FAR), least_input(Pipeline(NEVER), FAR)), ([], None))

    def test_the_longest_rounds_in_a_short_time(self):
        steps = [("window", 0, 5, 5, 0), ("window", 1, 4, 4, 0), ("window", 2, 3, 3, 0)]
        began = time.process_time()
        for _ in range(50):
            self.assertEqual(inputs_for(Pipeline(steps), FAR), list(range(60 * FAR, 60 * FAR + 60)))
            self.assertEqual(least_input(Pipeline(steps), FAR), 60 * FAR)
        self.assertLess(time.process_time() - began, 10)


class ErrorsTest(Case):

    def test_outputs_below_1(self):
        for steps in ([], BRIDGE, TWICE, NEVER, APART, [("pad", 0, 9, 9)]):
            for function in (inputs_for, least_input):
                for output in (0, -1, -8, -FAR):
                    self.check_raises(InvalidNumber, output, function, Pipeline(steps), output)
                function(Pipeline(steps), 1)
                function(Pipeline(steps), FAR)


if __name__ == "__main__":
    unittest.main()

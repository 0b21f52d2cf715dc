"""Tests of what parts two pipelines [2] [6] [7]."""

import inspect
import random
import time
import unittest

from fitsizes import alike as module
from fitsizes.alike import are_alike, parting_size
from fitsizes.fitting import fitting_sizes
from fitsizes.pipelines import Pipeline
from tests.plain import (APART, BRIDGE, TWICE, levelled_steps, plain_output, plain_parting, random_steps, round_steps,
                         spread_steps, two_round_steps)

FAR = 10 ** 33

# What fits only sizes that 2 or 3 or 6 divides, with the input's size as output.
EVEN = [("window", 0, 2, 2, 0), ("repeat", 1, 2), ("join", 0, 2)]
THIRDS = [("window", 0, 3, 3, 0), ("repeat", 1, 3), ("join", 0, 2)]
SIXTHS = [("window", 0, 6, 6, 0), ("repeat", 1, 6), ("join", 0, 2)]
# Only 10 fits TWICE and this one, with the outputs 20 and 21; 9 and 10 fit the last one.
TWENTY_ONE = TWICE + [("pad", 3, 0, 1)]
TWO = [("window", 0, 2, 2, 0), ("pad", 1, 5, 0), ("join", 0, 2)]
NEVER = [("pad", 0, 1, 0), ("join", 0, 1)]


class AlikeCase(unittest.TestCase):

    def check_parting(self, first, second, size):
        """The same both ways round."""
        with self.subTest(first=first, second=second):
            one, two = Pipeline(first), Pipeline(second)
            for pair in [(one, two), (two, one)]:
                self.assertEqual(parting_size(*pair), size)
                self.assertIs(are_alike(*pair), size is None)
            self.assertEqual((one.steps, two.steps), (first, second))


class InterfaceTest(AlikeCase):

    def test_names_and_arguments(self):
        for name in ["parting_size", "are_alike"]:
            with self.subTest(name=name):
                function = getattr(module, name)
                self.assertEqual(function.__module__, "fitsizes.alike")
                self.assertEqual(list(inspect.signature(function).parameters), ["first", "second"])

    def test_example_of_the_document(self):
        self.assertEqual(
            [parting_size(Pipeline([("window", 0, 4, 2, 0)]), Pipeline([("window", 0, 3, 2, 0)])),
             are_alike(Pipeline([("window", 0, 3, 2, 0), ("window", 1, 2, 2, 0)]), Pipeline([("window", 0, 5, 4, 0)]))],
            [3, True])

    def test_arguments_by_name(self):
        one, two = Pipeline([("window", 0, 4, 2, 0)]), Pipeline([("window", 0, 3, 2, 0)])
        self.assertEqual(parting_size(second=two, first=one), 3)
        self.assertIs(are_alike(second=two, first=one), False)
        self.assertIs(are_alike(second=one, first=one), True)


class PartingTest(AlikeCase):

    def test_a_size_that_fits_only_one(self):
        self.check_parting([("crop", 0, 1, 0)], [("crop", 0, 1, 0), ("crop", 1, 1, 0), ("pad", 2, 1, 0)], 2)
        self.check_parting([], [("crop", 0, 4, 5), ("pad", 1, 9, 0)], 1)
        self.check_parting([("crop", 0, 7, 0), ("pad", 1, 7, 0)], [("crop", 0, 0, 9), ("pad", 1, 9, 0)], 8)
        self.check_parting([], EVEN, 1)
        self.check_parting([("crop", 0, 1, 0), ("pad", 1, 1, 0)], EVEN, 3)
        self.check_parting(EVEN, THIRDS, 2)
        self.check_parting(THIRDS, SIXTHS, 3)
        even = [("crop", 0, 5, 0), ("pad", 1, 5, 0), ("window", 2, 2, 2, 0), ("repeat", 3, 2), ("join", 2, 4)]
        self.check_parting(even, SIXTHS, 8)

    def test_both_fit_with_unlike_outputs(self):
        self.check_parting([], [("pad", 0, 0, 1)], 1)
        self.check_parting([], [("repeat", 0, 2)], 1)
        self.check_parting([("crop", 0, 2, 0)], [("crop", 0, 2, 0), ("repeat", 1, 2)], 3)
        self.check_parting(TWICE, TWENTY_ONE, 10)
        self.check_parting(BRIDGE, BRIDGE + [("crop", 4, 1, 0)], 4)
        self.check_parting(EVEN, EVEN + [("repeat", 3, 2)], 2)

    def test_neither_fits(self):
        self.check_parting(NEVER, [("repeat", 0, 2), ("join", 0, 1)], None)
        self.check_parting(NEVER, NEVER + [("pad", 0, 1, 0)], None)
        # What the outputs would be of sizes that fit neither does not count.
        self.check_parting([("crop", 0, 5, 0)], [("crop", 0, 5, 0), ("pad", 0, 1, 0), ("crop", 2, 6, 0)], None)
        self.check_parting(TWICE, [("repeat", 0, 2), ("pad", 0, 0, 10), ("join", 2, 1)], None)
        self.check_parting(EVEN, [("repeat", 0, 1), ("window", 0, 2, 2, 1), ("repeat", 2, 2), ("join", 0, 3),
                                  ("window", 0, 2, 2, 0), ("repeat", 5, 2), ("join", 0, 6)], 2)

    def test_lists_against_lists(self):
        self.check_parting(TWICE, NEVER, 10)
        self.check_parting(TWO, NEVER, 9)
        self.check_parting(TWO, TWICE, 9)
        self.check_parting(TWO, TWO + [("repeat", 0, 2), ("crop", 4, 5, 5), ("join", 0, 5)], 9)
        self.check_parting(TWO, TWO + [("repeat", 0, 2), ("crop", 4, 5, 4), ("join", 0, 5)], 10)
        # 9 and 10 fit both, and the outputs part at the second one: n and 2 * n - 9.
        self.check_parting(TWO, TWO + [("repeat", 0, 2), ("crop", 4, 9, 0)], 10)

    def test_lists_against_classes(self):
        self.check_parting(TWICE, [], 1)
        self.check_parting(TWICE, [("crop", 0, 9, 0), ("repeat", 0, 2)], 11)
        self.check_parting(TWICE, [("crop", 0, 9, 0), ("repeat", 0, 2), ("pad", 2, 1, 0)], 10)
        self.check_parting(TWICE, [("crop", 0, 10, 0), ("repeat", 0, 2)], 10)
        self.check_parting(NEVER, [], 1)
        self.check_parting(NEVER, [("crop", 0, 30, 30)], 61)
        self.check_parting(TWO, [("crop", 0, 8, 0), ("pad", 1, 8, 0)], 11)
        self.check_parting(TWO, [("crop", 0, 9, 0), ("pad", 1, 9, 0)], 9)
        self.check_parting(TWO, [("crop", 0, 7, 0), ("pad", 1, 7, 0)], 8)

    def test_late(self):
        # The outputs (n - 1) // 5 + 1 and (n - 1) // 6 + 1, then (n - 7) // 6 + 1 and (n - 7) // 5 + 1.
        self.check_parting([("window", 0, 5, 5, 2)], [("window", 0, 7, 6, 3)], 6)
        self.check_parting([("window", 0, 7, 6, 0)], [("window", 0, 7, 5, 0)], 12)
        self.check_parting([("crop", 0, 30, 30), ("pad", 1, 30, 30)], [("crop", 0, 30, 29), ("pad", 1, 30, 29)], 60)
        crops, pads = [("crop", 0, 30, 30), ("crop", 1, 30, 30)], [("pad", 2, 30, 30), ("pad", 4, 30, 30)]
        self.check_parting(crops + [("crop", 2, 0, 0)] + pads, crops + [("crop", 2, 0, 1)] + pads, 121)
        self.check_parting(NEVER, [("crop", 0, 30, 30)] + [("crop", row, 30, 30) for row in range(1, 8)], 481)
        near = [("window", 0, 6, 6, 0), ("window", 0, 5, 5, 0), ("pad", 1, 30, 30), ("join", 2, 3)]
        self.check_parting(NEVER, near, 1775)

    def test_late_within_a_round(self):
        # The outputs n // 60 and (n + 2) // 60, then those of n - 58 and of n - 59 cells.
        one = [("window", 0, 5, 5, 0), ("window", 1, 4, 4, 0), ("window", 2, 3, 3, 0)]
        two = [("window", 0, 5, 5, 1), ("window", 1, 4, 4, 0), ("window", 2, 3, 3, 0)]
        self.check_parting(one, two, plain_parting(one, two, 200))
        self.assertEqual(plain_parting(one, two, 200), 58)
        less = [("crop", 0, 30, 28)] + [("window", 1, 5, 5, 0), ("window", 2, 4, 4, 0), ("window", 3, 3, 3, 0)]
        more = [("crop", 0, 29, 30)] + less[1:]
        self.check_parting(less, more, 118)

    def test_late_within_a_common_round(self):
        # What fits is 1 more than a multiple of 5; the outputs are (n + 19) // 12 and (n + 20) // 12.
        fives = [("window", 0, 5, 5, 2), ("repeat", 1, 5), ("pad", 0, 0, 4), ("join", 2, 3)]
        windows = [("window", 5, 4, 4, 0), ("window", 6, 3, 3, 0)]
        one, two = fives + [("pad", 0, 0, 19)] + windows, fives + [("pad", 0, 20, 0)] + windows
        self.assertEqual(fitting_sizes(Pipeline(one)), ("classes", 1, 5, [1]))
        self.check_parting(one, two, 16)
        # 6 and 7, 12 and 13 and so on fit; the outputs are (n + 8) // 10 and (n + 9) // 10.
        both = [("window", 0, 2, 2, 0), ("repeat", 1, 2), ("window", 0, 3, 3, 0), ("repeat", 3, 3), ("join", 2, 4)]
        windows = [("window", 6, 5, 5, 0), ("window", 7, 2, 2, 0)]
        one, two = both + [("pad", 0, 0, 8)] + windows, both + [("pad", 0, 9, 0)] + windows
        self.assertEqual(fitting_sizes(Pipeline(one)), ("classes", 6, 6, [0, 1]))
        self.check_parting(one, two, 31)

    def test_equal_for_one_whole_round(self):
        """Outputs that rise apart, at sizes that fit so seldom that they part at the second one alone."""
        seldom = [("window", 0, 6, 6, 0), ("repeat", 1, 6), ("join", 0, 2)]
        # With the outputs n and 2 * n - 6, equal for 6 alone.
        self.check_parting(seldom, seldom + [("repeat", 0, 2), ("crop", 4, 6, 0)], 12)
        self.check_parting(EVEN, EVEN + [("repeat", 0, 2), ("crop", 4, 1, 1)], 4)
        # With the outputs n and 2 * n - 12, equal for 12 alone.
        self.check_parting(seldom, seldom + [("repeat", 0, 2), ("crop", 4, 6, 6)], 6)
        # With the outputs 6 * (n // 6) and n // 6 + 5, equal from 6 to 11, the common round of both.
        self.check_parting([("window", 0, 6, 6, 0), ("repeat", 1, 6)], [("window", 0, 6, 6, 0), ("pad", 1, 5, 0)], 12)
        # With the outputs n and 3 * n - 12.
        self.check_parting(seldom, seldom + [("repeat", 0, 3), ("crop", 4, 12, 0)], 12)

    def test_not_at_all(self):
        for first, second in [
                ([], []), (BRIDGE, BRIDGE), (APART, [("crop", 0, 20, 0)]), (NEVER, NEVER), ([], [("repeat", 0, 1)]),
                ([], [("pad", 0, 0, 0)]), ([], [("crop", 0, 0, 0)]), ([], [("window", 0, 1, 1, 0)]),
                ([("crop", 0, 1, 2)], [("crop", 0, 3, 0)]),
                ([("crop", 0, 1, 2)], [("crop", 0, 0, 1), ("crop", 1, 2, 0)]),
                ([("pad", 0, 1, 2)], [("pad", 0, 0, 3)]), ([("pad", 0, 4, 4)], [("pad", 0, 5, 0), ("pad", 1, 0, 3)]),
                ([("repeat", 0, 6)], [("repeat", 0, 2), ("repeat", 1, 3)]),
                ([("repeat", 0, 3), ("repeat", 1, 2)], [("repeat", 0, 2), ("repeat", 1, 3)]),
                ([("window", 0, 3, 1, 0)], [("crop", 0, 1, 1)]), ([("window", 0, 3, 1, 2)], [("pad", 0, 1, 1)]),
                ([("window", 0, 3, 2, 0), ("window", 1, 2, 2, 0)], [("window", 0, 5, 4, 0)]),
                ([("window", 0, 2, 2, 0), ("window", 1, 3, 3, 0)], [("window", 0, 3, 3, 0), ("window", 1, 2, 2, 0)]),
                ([("window", 0, 2, 2, 0), ("window", 1, 3, 3, 0)], [("window", 0, 6, 6, 0)]),
                ([("repeat", 0, 4), ("window", 1, 4, 2, 0)], [("repeat", 0, 2), ("window", 1, 2, 1, 0)]),
                ([("repeat", 0, 2), ("window", 1, 2, 2, 0)], []),
                (EVEN + [("window", 3, 3, 3, 0), ("repeat", 4, 3), ("join", 3, 5)], SIXTHS),
                (THIRDS + [("window", 3, 2, 2, 0), ("repeat", 4, 2), ("join", 3, 5)], SIXTHS),
                (EVEN, [("window", 0, 2, 2, 0), ("repeat", 1, 2), ("join", 2, 0)]),
                (BRIDGE, [("window", 0, 4, 4, 0), ("repeat", 1, 4), ("join", 2, 0)])]:
            self.check_parting(first, second, None)

    def test_rows_that_the_output_does_not_use_count(self):
        self.check_parting([("crop", 0, 3, 0), ("repeat", 0, 2)], [("repeat", 0, 2)], 1)
        self.check_parting([("crop", 0, 3, 0), ("repeat", 0, 2)], [("crop", 0, 0, 3), ("repeat", 0, 2)], None)

    def test_compared_with_going_through_many_sizes(self):
        chance = random.Random(31)
        seen = set()
        for turn in range(600):
            first, second = self.two_pipelines(chance, turn)
            told = parting_size(Pipeline(first), Pipeline(second))
            plain = plain_parting(first, second, 300)
            if told is not None and told > 300:
                self.assertNotEqual(plain_output(first, told), plain_output(second, told))
                told = None
            self.check_parting(first, second, parting_size(Pipeline(first), Pipeline(second)))
            self.assertEqual(told, plain, (first, second))
            kinds = sorted([fitting_sizes(Pipeline(steps))[0] for steps in (first, second)])
            seen.add((tuple(kinds), told is None, told is not None and told > 25))
        for kind in [(("classes", "classes"), True, False), (("classes", "classes"), False, False),
                     (("classes", "classes"), False, True), (("some", "some"), True, False),
                     (("some", "some"), False, False), (("classes", "some"), False, False),
                     (("classes", "some"), False, True)]:
            self.assertIn(kind, seen)

    def two_pipelines(self, chance, turn):
        """Two lists of steps, mostly ones that are hardly unlike."""
        size = chance.randint(1, 60)
        first = [random_steps, spread_steps, lambda c: levelled_steps(c)[0], lambda c: round_steps(c, size),
                 lambda c: two_round_steps(c, size)][turn % 5](chance)
        if turn % 3 == 0:
            return first, levelled_steps(chance)[0]
        second = list(first)
        at = chance.randint(0, max(len(second) - 1, 0))
        if second and second[at][0] in ("crop", "pad"):
            word, row, left, right = second[at]
            second[at] = (word, row, right, left + chance.choice([0, 0, 0, 1]))
        elif second and second[at][0] == "window":
            word, row, length, stride, pad = second[at]
            stride = chance.choice([stride, max(stride - 1, 1)])
            second[at] = (word, row, length, stride, max(pad - chance.randint(0, 1), 0))
        return first, second

    def test_the_longest_periods_in_a_short_time(self):
        one = [("window", 0, 6, 6, 0), ("window", 1, 3, 3, 0), ("window", 2, 3, 3, 0)]
        two = [("window", 0, 5, 5, 0), ("window", 1, 5, 5, 0), ("window", 2, 2, 2, 0)]
        same = [("window", 0, 9, 6, 0), ("window", 1, 3, 3, 0), ("window", 2, 3, 3, 1)]
        began = time.process_time()
        for _ in range(10):
            self.check_parting(one, two, 50)
            self.check_parting(one, same, plain_parting(one, same, 200))
            self.check_parting(same, same, None)
        self.assertLess(time.process_time() - began, 10)


if __name__ == "__main__":
    unittest.main()

"""Tests of the forms of the fitting sizes and of what is asked of them [2] [3] [6] [7]."""

import inspect
import random
import time
import unittest

from fitsizes import fitting as module
from fitsizes.errors import InvalidNumber
from fitsizes.fitting import count_fitting, fitting_sizes, next_fitting, nth_fitting
from fitsizes.pipelines import Pipeline
from tests.plain import (APART, BRIDGE, TWICE, in_form, levelled_steps, plain_fits, random_steps, round_steps,
                         spread_steps, two_round_steps)

FAR = 10 ** 33

# Fits every size that 6 divides, from 6 on: two joins with the periods 2 and 3.
SIXES = [("window", 0, 2, 2, 0), ("repeat", 1, 2), ("join", 2, 0), ("window", 0, 3, 3, 0), ("repeat", 4, 3),
         ("join", 5, 0)]
# 2 * (n // 2) == 3 * (n // 3) as well, where 0 and 1 more than a multiple of 6 fit, too.
BOTH = [("window", 0, 2, 2, 0), ("repeat", 1, 2), ("window", 0, 3, 3, 0), ("repeat", 3, 3), ("join", 2, 4)]
# The same again, of row 0 too, where the crop ahead of it only tells the least size.
BEHIND_A_CROP = [("window", 0, 2, 2, 0), ("repeat", 2, 2), ("window", 0, 3, 3, 0), ("repeat", 4, 3), ("join", 3, 5)]
# 2 * (n // 2) == n - 1.
ODD = [("window", 0, 2, 2, 0), ("repeat", 1, 2), ("crop", 0, 0, 1), ("join", 2, 3)]
# n // 2 + 5 == n twice, n // 2 == n // 3 + 2 six times, 2 * (n // 2) == n + 6 never.
TWO = [("window", 0, 2, 2, 0), ("pad", 1, 5, 0), ("join", 0, 2)]
SEVERAL = [("window", 0, 2, 2, 0), ("window", 0, 3, 3, 0), ("pad", 2, 0, 2), ("join", 1, 3)]
NEVER = [("window", 0, 2, 2, 0), ("repeat", 1, 2), ("pad", 0, 3, 3), ("join", 2, 3)]


class FittingCase(unittest.TestCase):

    def check_raises(self, value, function, *args, **named):
        with self.subTest(function=function.__name__, args=args, named=named):
            with self.assertRaises(InvalidNumber) as caught:
                function(*args, **named)
            self.assertIs(type(caught.exception), InvalidNumber)
            self.assertEqual(caught.exception.value, value)


class InterfaceTest(FittingCase):

    def test_names_and_arguments(self):
        for name, told in [("fitting_sizes", ["pipeline"]), ("next_fitting", ["pipeline", "size"]),
                           ("count_fitting", ["pipeline", "low", "high"]), ("nth_fitting", ["pipeline", "number"])]:
            with self.subTest(name=name):
                function = getattr(module, name)
                self.assertEqual(function.__module__, "fitsizes.fitting")
                self.assertEqual(list(inspect.signature(function).parameters), told)

    def test_example_of_the_document(self):
        bridge, twice = Pipeline(BRIDGE), Pipeline(TWICE)
        self.assertEqual(
            [fitting_sizes(bridge), fitting_sizes(twice), fitting_sizes(Pipeline([])), next_fitting(bridge, 9),
             count_fitting(bridge, 1, 10 ** 30), nth_fitting(twice, 1)],
            [("classes", 4, 4, [0]), ("some", [10]), ("classes", 1, 1, [0]), 12, 250000000000000000000000000000, None])

    def test_arguments_by_name(self):
        bridge = Pipeline(BRIDGE)
        self.assertEqual(fitting_sizes(pipeline=bridge), ("classes", 4, 4, [0]))
        self.assertEqual(next_fitting(size=9, pipeline=bridge), 12)
        self.assertEqual(count_fitting(high=12, low=5, pipeline=bridge), 2)
        self.assertEqual(nth_fitting(number=2, pipeline=bridge), 12)
        self.check_raises(0, next_fitting, size=0, pipeline=bridge)
        self.check_raises(0, count_fitting, high=-1, low=0, pipeline=bridge)
        self.check_raises(4, count_fitting, high=4, low=5, pipeline=bridge)
        self.check_raises(-1, nth_fitting, number=-1, pipeline=bridge)

    def test_no_argument_is_changed_and_returned_lists_are_new(self):
        for steps in (BRIDGE, TWICE, NEVER, []):
            told = list(steps)
            pipeline = Pipeline(told)
            told.append(("crop", 0, 9, 9))
            kept = Pipeline(steps)
            form = fitting_sizes(pipeline)
            again = fitting_sizes(kept)
            form[-1].append(7)
            form[-1].reverse()
            self.assertEqual(fitting_sizes(pipeline), again)
            next_fitting(pipeline, 3), count_fitting(pipeline, 1, 20), nth_fitting(pipeline, 0)
            self.assertEqual(fitting_sizes(pipeline), again)
            self.assertEqual(pipeline.steps, steps)


class FormTest(FittingCase):

    def check_form(self, steps, form):
        with self.subTest(steps=steps):
            told = fitting_sizes(Pipeline(steps))
            self.assertEqual(told, form)
            self.assertEqual((type(told), type(told[-1])), (tuple, list))

    def check_shape(self, steps, form):
        """The form is one of the two of [7], each in its least words."""
        if form[0] == "some":
            self.assertEqual(len(form), 2)
            self.assertEqual(form[1], sorted(set(form[1])), steps)
            self.assertTrue(all(plain_fits(steps, size) for size in form[1]), steps)
            return
        word, least, period, residues = form
        self.assertEqual(word, "classes")
        self.assertTrue(plain_fits(steps, least), steps)
        self.assertTrue(residues, steps)
        self.assertEqual(residues, sorted(set(residues)), steps)
        self.assertTrue(0 <= residues[0] and residues[-1] < period, steps)
        self.assertIn(least % period, residues)
        for lesser in range(1, period):
            marks = [size % period in residues for size in range(2 * period)]
            self.assertTrue(any(marks[n] != marks[n + lesser] for n in range(period)), (steps, lesser))

    def check_by_sizes(self, steps, most):
        form = fitting_sizes(Pipeline(steps))
        self.check_shape(steps, form)
        for size in range(1, most):
            self.assertEqual(in_form(form, size), plain_fits(steps, size), (steps, size, form))
        for size in (FAR - most, 10 ** 30):
            for more in range(most // 10):
                self.assertEqual(in_form(form, size + more), plain_fits(steps, size + more), (steps, size + more))
        return form

    def test_all_sizes_from_the_least_on(self):
        self.check_form([], ("classes", 1, 1, [0]))
        self.check_form([("repeat", 0, 6)], ("classes", 1, 1, [0]))
        self.check_form([("pad", 0, 30, 0)], ("classes", 1, 1, [0]))
        self.check_form([("crop", 0, 2, 1)], ("classes", 4, 1, [0]))
        self.check_form([("window", 0, 9, 4, 0)], ("classes", 9, 1, [0]))
        self.check_form([("window", 0, 9, 4, 4)], ("classes", 1, 1, [0]))
        self.check_form([("window", 0, 9, 4, 3), ("crop", 1, 2, 0)], ("classes", 11, 1, [0]))
        self.check_form([("crop", 0, 30, 30), ("pad", 1, 30, 0)], ("classes", 61, 1, [0]))
        self.check_form([("crop", 0, 5, 5), ("pad", 0, 5, 5)], ("classes", 11, 1, [0]))
        self.check_form(APART, ("classes", 21, 1, [0]))
        self.check_form([("repeat", 0, 1), ("join", 0, 1), ("join", 1, 0)], ("classes", 1, 1, [0]))

    def test_classes(self):
        self.check_form(BRIDGE, ("classes", 4, 4, [0]))
        self.check_form(SIXES, ("classes", 6, 6, [0]))
        self.check_form(BOTH, ("classes", 6, 6, [0, 1]))
        self.check_form(ODD, ("classes", 3, 2, [1]))
        self.check_form([("crop", 0, 7, 0)] + [("window", 0, 2, 2, 0), ("repeat", 2, 2), ("join", 3, 0)],
                        ("classes", 8, 2, [0]))
        self.check_form([("crop", 0, 8, 0)] + [("window", 0, 2, 2, 0), ("repeat", 2, 2), ("join", 3, 0)],
                        ("classes", 10, 2, [0]))
        self.check_form([("window", 0, 5, 5, 0), ("repeat", 1, 5), ("pad", 0, 0, 4), ("crop", 3, 0, 7), ("join", 2, 4)],
                        ("classes", 8, 5, [3]))

    def test_the_least_period_may_be_less_than_those_of_the_lines(self):
        # Rows that are equal for all sizes have their own periods, which do not count.
        self.check_form([("window", 0, 4, 4, 0), ("window", 0, 2, 2, 0), ("window", 2, 2, 2, 0), ("join", 1, 3)],
                        ("classes", 4, 1, [0]))
        self.check_form([("window", 0, 2, 2, 0), ("window", 0, 2, 2, 1), ("join", 1, 2), ("window", 0, 6, 6, 5)],
                        ("some", []))
        self.check_form([("window", 0, 2, 2, 1), ("crop", 1, 1, 0), ("window", 0, 2, 2, 0), ("join", 2, 3),
                         ("window", 0, 6, 6, 0)], ("classes", 6, 1, [0]))
        # 3 * (n // 6) == n // 2 three times in six, 2 * (n // 4) == n // 2 for 0 and 1 more than a multiple of 4.
        self.check_form([("window", 0, 4, 4, 0), ("repeat", 1, 2), ("window", 0, 2, 2, 0), ("join", 2, 3)],
                        ("classes", 4, 4, [0, 1]))
        same = [("window", 0, 4, 4, 0), ("repeat", 1, 1), ("join", 1, 2)]
        self.check_form(same, ("classes", 4, 1, [0]))
        self.check_form(same + [("window", 0, 2, 2, 0), ("repeat", 4, 2), ("join", 0, 5)], ("classes", 4, 2, [0]))
        self.check_form(same + [("window", 0, 3, 3, 0), ("repeat", 4, 3), ("join", 0, 5)], ("classes", 6, 3, [0]))
        self.check_form([("window", 0, 6, 6, 0), ("repeat", 1, 3), ("window", 0, 2, 2, 0), ("join", 2, 3)],
                        ("classes", 6, 6, [0, 1]))

    def test_lists(self):
        self.check_form(TWICE, ("some", [10]))
        self.check_form(TWO, ("some", [9, 10]))
        self.check_form(SEVERAL, ("some", [8, 10, 11, 12, 13, 15]))
        self.check_form(NEVER, ("some", []))
        self.check_form([("repeat", 0, 2), ("join", 1, 0)], ("some", []))
        self.check_form([("pad", 0, 0, 1), ("join", 0, 1)], ("some", []))
        self.check_form([("repeat", 0, 3), ("repeat", 0, 2), ("pad", 2, 30, 30), ("join", 1, 3)], ("some", [60]))
        # Equal, but only where a row is empty.
        self.check_form([("repeat", 0, 2), ("crop", 1, 3, 0), ("join", 0, 2), ("crop", 0, 3, 0)], ("some", []))
        self.check_form([("repeat", 0, 2), ("crop", 1, 4, 0), ("join", 0, 2), ("crop", 0, 3, 0)], ("some", [4]))

    def test_several_joins(self):
        # Apart and apart, apart and alike in both orders.
        self.check_form(TWO + [("repeat", 0, 2), ("crop", 4, 5, 5), ("join", 0, 5)], ("some", [10]))
        self.check_form(TWO + [("repeat", 0, 2), ("crop", 4, 5, 4), ("join", 0, 5)], ("some", [9]))
        self.check_form(TWO + [("repeat", 0, 2), ("crop", 4, 5, 3), ("join", 0, 5)], ("some", []))
        even = [("window", 0, 2, 2, 0), ("repeat", 1, 2), ("join", 2, 0)]
        self.check_form(even + [("pad", 1, 5, 0), ("join", 0, 4)], ("some", [10]))
        self.check_form(TWO + [("repeat", 1, 2), ("join", 4, 0)], ("some", [10]))
        self.check_form(SIXES + [("crop", 0, 3, 4), ("join", 0, 7)], ("some", []))
        self.check_form(SIXES, ("classes", 6, 6, [0]))

    def test_far_lists(self):
        """Rows that rise nearly alike meet late: n // 6 + 60 == n // 5 for sizes about 1800."""
        steps = [("window", 0, 6, 6, 0), ("window", 0, 5, 5, 0), ("pad", 1, 30, 30), ("join", 2, 3)]
        form = self.check_by_sizes(steps, 2500)
        self.assertGreater(len(form[1]), 5)
        self.assertGreater(form[1][0], 1700)

    def some_steps(self, chance, turn):
        size = chance.randint(1, 70)
        if turn % 5 == 0:
            return random_steps(chance)
        if turn % 5 == 1:
            return levelled_steps(chance)[0]
        if turn % 5 == 2:
            return spread_steps(chance)
        if turn % 5 == 3:
            return two_round_steps(chance, size)
        steps = round_steps(chance, size)
        if len(steps) < 6 and chance.randint(0, 1):
            steps += [("window", 0, 3, 3, 0), ("repeat", len(steps) + 1, 3), ("join", 0, len(steps) + 2)]
        return steps

    def test_compared_with_going_through_many_sizes(self):
        chance = random.Random(21)
        kinds = set()
        for turn in range(250):
            steps = self.some_steps(chance, turn)
            form = self.check_by_sizes(steps, 260)
            kinds.add((form[0], min(len(form[-1]), 3), form[0] == "classes" and form[2] > 1))
        for kind in [("some", 0, False), ("some", 1, False), ("some", 3, False), ("classes", 1, False),
                     ("classes", 1, True), ("classes", 2, True), ("classes", 3, True)]:
            self.assertIn(kind, kinds)

    def test_the_longest_periods_in_a_short_time(self):
        back = [("window", 0, 6, 5, 2), ("window", 1, 4, 3, 1), ("window", 2, 2, 2, 1), ("window", 3, 2, 2, 0),
                ("repeat", 4, 6), ("repeat", 5, 4), ("window", 0, 5, 5, 0)]
        began = time.process_time()
        for _ in range(20):
            fitting_sizes(Pipeline(back[:6] + [("join", 0, 6)]))
            fitting_sizes(Pipeline(back[:6] + [("join", 0, 6), ("join", 6, 4)]))
        self.assertLess(time.process_time() - began, 10)
        self.check_by_sizes(back[:6] + [("join", 0, 6)], 400)

    def test_beyond_the_bounds(self):
        """A pipeline that was put together from two."""
        both = Pipeline(BRIDGE).followed_by(Pipeline(SIXES))
        self.assertEqual(fitting_sizes(both), ("classes", 12, 12, [0]))
        self.assertEqual(fitting_sizes(both.followed_by(Pipeline(BRIDGE))), ("classes", 12, 12, [0]))


class QuestionsTest(FittingCase):

    def check_questions(self, steps, most):
        pipeline = Pipeline(steps)
        fitting = [size for size in range(1, 2 * most + 200) if plain_fits(steps, size)]
        for size in range(1, most):
            following = [one for one in fitting if one >= size]
            self.assertEqual(next_fitting(pipeline, size), following[0] if following else None, (steps, size))
        for low, high in [(1, 1), (1, most), (2, 3), (5, 5), (3, most - 1), (most, most), (7, most // 2)]:
            if low <= high:
                told = len([one for one in fitting if low <= one <= high])
                self.assertEqual(count_fitting(pipeline, low, high), told, (steps, low, high))
        for number in range(min(len(fitting), 40)):
            self.assertEqual(nth_fitting(pipeline, number), fitting[number], (steps, number))
        if fitting_sizes(pipeline)[0] == "some":
            for number in (len(fitting), len(fitting) + 1, FAR):
                self.assertIsNone(nth_fitting(pipeline, number))

    def test_by_going_through_the_sizes(self):
        for steps in ([], BRIDGE, TWICE, APART, SIXES, BOTH, TWO, SEVERAL, ODD, NEVER):
            self.check_questions(steps, 60)
        chance = random.Random(22)
        for turn in range(60):
            steps = round_steps(chance, chance.randint(1, 40)) if turn % 2 else levelled_steps(chance)[0]
            form = fitting_sizes(Pipeline(steps))
            if form[0] == "classes" or form[1][-1:] < [200]:
                self.check_questions(steps, 40)

    def test_near_the_least_fitting_size(self):
        both = Pipeline([("crop", 0, 14, 0)] + BEHIND_A_CROP)
        self.assertEqual(fitting_sizes(both), ("classes", 18, 6, [0, 1]))
        self.assertEqual([next_fitting(both, size) for size in (1, 7, 12, 17, 18, 19, 20, 24, 26)],
                         [18, 18, 18, 18, 18, 19, 24, 24, 30])
        self.assertEqual([nth_fitting(both, number) for number in range(5)], [18, 19, 24, 25, 30])
        bounds = [(1, 17), (1, 18), (18, 18), (18, 19), (19, 23), (19, 24), (6, 7), (20, 23), (25, 30), (1, 10 ** 30)]
        self.assertEqual([count_fitting(both, *told) for told in bounds],
                         [0, 1, 1, 2, 1, 2, 0, 0, 2, 2 * ((10 ** 30 - 18) // 6 + 1)])
        late = Pipeline([("crop", 0, 18, 0)] + BEHIND_A_CROP)
        self.assertEqual(fitting_sizes(late), ("classes", 19, 6, [0, 1]))
        self.assertEqual([nth_fitting(late, number) for number in range(4)], [19, 24, 25, 30])
        self.assertEqual([next_fitting(late, size) for size in (1, 18, 19, 20)], [19, 19, 19, 24])
        self.assertEqual([count_fitting(late, *told) for told in [(1, 18), (1, 19), (1, 24), (19, 25), (20, 25)]],
                         [0, 1, 2, 3, 2])

    def test_far(self):
        bridge, sixes, both = Pipeline(BRIDGE), Pipeline(SIXES), Pipeline(BOTH)
        self.assertEqual(next_fitting(bridge, FAR), FAR)
        self.assertEqual(next_fitting(bridge, FAR - 1), FAR)
        self.assertEqual(next_fitting(bridge, FAR + 1), FAR + 4)
        self.assertEqual(next_fitting(sixes, FAR), FAR + 2)
        self.assertEqual(next_fitting(both, FAR - 2), FAR + 2)
        self.assertEqual(next_fitting(both, FAR - 3), FAR - 3)
        self.assertEqual(count_fitting(bridge, FAR, FAR), 1)
        self.assertEqual(count_fitting(bridge, FAR + 1, FAR + 3), 0)
        self.assertEqual(count_fitting(bridge, 1, FAR), FAR // 4)
        self.assertEqual(count_fitting(bridge, FAR - 100, FAR), 26)
        self.assertEqual(count_fitting(both, 1, 6 * FAR + 1), 2 * FAR)
        self.assertEqual(nth_fitting(bridge, FAR), 4 * FAR + 4)
        self.assertEqual(nth_fitting(sixes, FAR - 1), 6 * FAR)
        self.assertEqual([nth_fitting(both, FAR), nth_fitting(both, FAR + 1)], [3 * FAR + 6, 3 * FAR + 7])
        self.assertEqual(nth_fitting(Pipeline([]), FAR), FAR + 1)
        self.assertEqual(count_fitting(Pipeline([]), 1, FAR), FAR)
        self.assertEqual(count_fitting(Pipeline([]), FAR, FAR), 1)

    def test_numbers_and_sizes_belong_together(self):
        chance = random.Random(23)
        for steps in (BRIDGE, SIXES, BOTH, ODD, APART, [("window", 0, 9, 6, 2)]):
            pipeline = Pipeline(steps)
            self.assertEqual(fitting_sizes(pipeline)[0], "classes")
            for _ in range(40):
                number = chance.randint(0, 10 ** chance.randint(1, 33))
                size = nth_fitting(pipeline, number)
                self.assertTrue(plain_fits(steps, size))
                self.assertEqual(next_fitting(pipeline, size), size)
                self.assertEqual(next_fitting(pipeline, size + 1), nth_fitting(pipeline, number + 1))
                self.assertEqual(count_fitting(pipeline, 1, size), number + 1)
                low = chance.randint(1, size)
                below = count_fitting(pipeline, 1, low - 1) if low > 1 else 0
                self.assertEqual(below + count_fitting(pipeline, low, size), number + 1)

    def test_lists_at_and_behind_the_last(self):
        two = Pipeline(TWO)
        self.assertEqual([next_fitting(two, size) for size in (1, 8, 9, 10, 11, FAR)], [9, 9, 9, 10, None, None])
        self.assertEqual([nth_fitting(two, number) for number in (0, 1, 2, 3, FAR)], [9, 10, None, None, None])
        self.assertEqual([count_fitting(two, *told) for told in [(1, 8), (1, 9), (9, 9), (9, 10), (10, 10), (11, 11),
                                                                 (1, FAR), (10, FAR), (11, FAR)]],
                         [0, 1, 1, 2, 1, 0, 2, 1, 0])
        never = Pipeline(NEVER)
        self.assertEqual([next_fitting(never, size) for size in (1, FAR)], [None, None])
        self.assertEqual([nth_fitting(never, number) for number in (0, FAR)], [None, None])
        self.assertEqual([count_fitting(never, *told) for told in [(1, 1), (1, FAR)]], [0, 0])


class ErrorsTest(FittingCase):

    def test_size_check_of_next_fitting(self):
        for steps in ([], BRIDGE, TWICE, NEVER):
            for size in (0, -1, -4, -FAR):
                self.check_raises(size, next_fitting, Pipeline(steps), size)
            next_fitting(Pipeline(steps), 1)

    def test_low_ahead_of_high(self):
        for steps in ([], BRIDGE, TWICE, NEVER):
            pipeline = Pipeline(steps)
            for low, high, value in [(0, 5, 0), (-1, 5, -1), (-FAR, FAR, -FAR), (0, 0, 0), (0, -1, 0), (-3, -4, -3),
                                     (-3, -3, -3), (-3, 9, -3), (1, 0, 0), (1, -1, -1), (6, 5, 5), (FAR, 1, 1),
                                     (FAR, FAR - 1, FAR - 1), (2, -FAR, -FAR)]:
                self.check_raises(value, count_fitting, pipeline, low, high)
            for low, high in [(1, 1), (5, 5), (FAR, FAR), (1, FAR)]:
                count_fitting(pipeline, low, high)

    def test_numbers_below_0(self):
        for steps in ([], BRIDGE, TWICE, NEVER):
            for number in (-1, -2, -FAR):
                self.check_raises(number, nth_fitting, Pipeline(steps), number)
            nth_fitting(Pipeline(steps), 0)


if __name__ == "__main__":
    unittest.main()

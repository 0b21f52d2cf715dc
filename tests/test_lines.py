"""Tests of stepped lines [2] [3] [4]."""

import random
import unittest
from math import lcm

from fitsizes.errors import InvalidLine
from fitsizes.lines import Line

FAR = 10 ** 33

# Starts and a rise each: flat parts, jumps, rise 0, least forms and others, values below 0.
TOLD = [([0], 0), ([-5], 0), ([3, 3, 3], 0), ([0], 1), ([7], 1), ([0], 2), ([-4], 9), ([0, 0], 1), ([0, 1], 1),
        ([0, 1], 2), ([0, 5], 5), ([0, 0, 1, 1], 2), ([0, 0, 0], 1), ([-3, -3, 2], 6), ([-10, 0, 0, 7, 8], 30),
        ([0, 2, 4, 6, 8, 10], 12), ([0, 0, 0, 1, 1, 1], 2), ([0, 1, 1, 2, 3, 3], 4), ([4, 4, 4, 4], 0),
        ([1, 2, 3, 5], 5), ([0, FAR], FAR), ([-FAR, 0, FAR], 2 * FAR + 1)]


def value_told(told, place):
    """f(n) straight from the words of the document."""
    starts, rise = told
    return starts[place % len(starts)] + rise * (place // len(starts))


def random_told(chance, most=9, steep=4):
    """Starts and a rise, often with a period that is not the least."""
    many = chance.randint(1, most)
    starts = [chance.randint(-20, 20)]
    for _ in range(many - 1):
        starts.append(starts[-1] + chance.choice([0, 0, 1, 1, 2, steep]))
    rise = starts[-1] - starts[0] + chance.choice([0, 0, 1, 2, steep])
    times = chance.choice([1, 1, 2, 3])
    return [start + rise * turn for turn in range(times) for start in starts], rise * times


def least_period_told(told):
    """The least period, by trying all of them over a whole told period and one more."""
    many = len(told[0])
    for period in range(1, many + 1):
        gain = value_told(told, period) - value_told(told, 0)
        if all(value_told(told, n + period) == value_told(told, n) + gain for n in range(2 * many)):
            return period
    return None


class LineCase(unittest.TestCase):

    def check_raises(self, value, *args, **named):
        with self.assertRaises(InvalidLine) as caught:
            Line(*args, **named)
        self.assertIs(type(caught.exception), InvalidLine)
        self.assertEqual(caught.exception.value, value)


class FormTest(LineCase):

    def test_example_of_the_document(self):
        half, third = Line([0, 0, 1, 1], 2), Line([0, 0, 0], 1)
        self.assertEqual(
            [half.starts, half.rise, half.at(-3), half.after(Line([0], 3)).starts, (half + third).at(10),
             half.least_at(5), half.meeting(third, 2), half.meeting(third, 4), half.parting(third, 0),
             Line([0], 2).meeting(Line([10], 1), 0), Line([3], 0).least_at(2)],
            [[0, 0], 1, -2, [0, 1], 8, 10, 3, None, 2, 10, None])

    def test_interface_stands_in_the_class(self):
        self.assertEqual(Line.__module__, "fitsizes.lines")
        for name in ["starts", "rise", "__len__", "__eq__", "__add__", "at", "after", "least_at", "meeting", "parting"]:
            with self.subTest(name=name):
                self.assertIn(name, vars(Line))
        for name in ["starts", "rise"]:
            self.assertIsInstance(vars(Line)[name], property)

    def test_least_form_whatever_period_is_told(self):
        for starts, rise in [([0, 2, 3], 5), ([7], 2), ([0, 0, 1, 1, 2], 3), ([-8, 0], 8), ([4], 0), ([0, 0, 0, 1], 1)]:
            for times in (1, 2, 3, 4, 6):
                told = [start + rise * turn for turn in range(times) for start in starts]
                with self.subTest(told=told):
                    line = Line(told, rise * times)
                    self.assertEqual((line.starts, line.rise, len(line)), (starts, rise, len(starts)))
                    self.assertEqual(line, Line(starts, rise))

    def test_least_form_of_many_lines(self):
        chance = random.Random(1)
        for told in TOLD + [random_told(chance) for _ in range(300)]:
            with self.subTest(told=told):
                line = Line(told[0], told[1])
                period = least_period_told(told)
                self.assertEqual(len(line), period)
                self.assertEqual(line.starts, told[0][:period])
                self.assertEqual(line.rise, value_told(told, period) - value_told(told, 0))

    def test_rises_that_do_not_divide(self):
        # The starts repeat in both, but the rise of so many of them is no integer part of the whole rise.
        self.assertEqual((Line([0, 0], 3).starts, Line([0, 0], 3).rise), ([0, 0], 3))
        self.assertEqual((Line([0, 1], 3).starts, Line([0, 1], 3).rise), ([0, 1], 3))
        self.assertEqual((Line([0, 1, 2], 4).starts, Line([0, 1, 2], 4).rise), ([0, 1, 2], 4))

    def test_greatest_number_of_starts(self):
        starts = [n // 7 for n in range(119)] + [17]
        self.assertEqual(len(Line(starts, 18)), 120)
        self.assertEqual(Line(starts, 18).starts, starts)
        self.assertEqual(len(Line([n // 60 for n in range(120)], 2)), 60)
        self.assertEqual(len(Line([5 * n for n in range(120)], 600)), 1)

    def test_at(self):
        chance = random.Random(2)
        for told in TOLD + [random_told(chance) for _ in range(60)]:
            line = Line(told[0], told[1])
            for place in list(range(-30, 31)) + [FAR, FAR + 1, -FAR, -FAR - 1, 10 ** 40 + 7, -10 ** 40 + 7]:
                with self.subTest(told=told, place=place):
                    self.assertEqual(line.at(place), value_told(told, place))
                    self.assertEqual(line.at(n=place), value_told(told, place))

    def test_equal_exactly_if_alike_everywhere(self):
        lines = [Line(starts, rise) for starts, rise in TOLD]
        for at, one in enumerate(TOLD):
            for by, other in enumerate(TOLD):
                alike = all(value_told(one, n) == value_told(other, n) for n in range(-60, 61))
                with self.subTest(one=one, other=other):
                    self.assertIs(lines[at] == lines[by], alike)
                    self.assertIs(lines[at] != lines[by], not alike)

    def test_lines_that_share_only_starts_or_only_the_rise(self):
        self.assertNotEqual(Line([0, 1], 2), Line([0, 1], 3))
        self.assertNotEqual(Line([0, 1], 3), Line([0, 2], 3))
        self.assertNotEqual(Line([0], 1), Line([1], 1))
        self.assertNotEqual(Line([0, 0], 1), Line([0, 1], 1))

    def test_equal_to_nothing_else(self):
        line = Line([0, 1], 3)
        for other in [[0, 1], (0, 1), ([0, 1], 3), [[0, 1], 3], None, 0, 3, "line", {}]:
            with self.subTest(other=other):
                self.assertIs(line == other, False)
                self.assertIs(other == line, False)
                self.assertIs(line != other, True)

    def test_told_starts_are_neither_changed_nor_kept(self):
        for starts, rise in [([0, 2], 3), ([0, 2, 3, 5], 6)]:
            told = list(starts)
            line = Line(told, rise)
            self.assertEqual(told, starts)
            told[0] = -9
            told.append(100)
            self.assertEqual((line.starts, line.at(0), line.at(2)), ([0, 2], 0, 3))

    def test_the_starts_that_are_returned_are_new(self):
        line = Line([0, 2], 3)
        given = line.starts
        given[1] = 50
        given.append(60)
        self.assertIsNot(line.starts, line.starts)
        self.assertEqual((line.starts, line.at(1), len(line)), ([0, 2], 2, 2))
        self.assertEqual(line, Line([0, 2], 3))

    def test_arguments_by_name(self):
        self.assertEqual(Line(rise=3, starts=[0, 1]), Line([0, 1], 3))


class CheckTest(LineCase):

    def test_no_starts(self):
        for rise in (0, 1, -1, FAR, -FAR):
            self.check_raises(None, [], rise)
        self.check_raises(None, rise=-1, starts=[])

    def test_first_start_that_falls(self):
        self.check_raises(1, [1, 0], 5)
        self.check_raises(1, [0, -1], 5)
        self.check_raises(2, [0, 4, 3, 4], 5)
        self.check_raises(3, [0, 4, 4, 3], 5)
        self.check_raises(2, [0, 4, 3, 6, 5], 50)
        self.check_raises(1, [9, 8, 7, 6], 50)
        self.check_raises(119, list(range(119)) + [117], 500)
        self.check_raises(1, [FAR, FAR - 1], FAR)
        self.check_raises(2, starts=[0, 1, 0], rise=9)

    def test_last_start_too_great_for_the_rise(self):
        self.check_raises(2, [0, 4], 3)
        self.check_raises(3, [0, 0, 1], 0)
        self.check_raises(1, [0], -1)
        self.check_raises(1, [FAR], -FAR)
        self.check_raises(2, [5, 5], -1)
        self.check_raises(4, [-3, -2, -1, 0], 2)
        self.check_raises(120, list(range(120)), 118)
        self.check_raises(2, [-FAR, FAR], 2 * FAR - 1)
        self.check_raises(2, rise=3, starts=[0, 4])

    def test_a_start_that_falls_comes_first(self):
        self.check_raises(2, [0, 9, 8], 3)
        self.check_raises(1, [9, 8], -5)
        self.check_raises(3, [0, 5, 5, 1, 7, 0], 0)

    def test_right_lines_raise_nothing(self):
        for starts, rise in [([0], 0), ([0, 0], 0), ([0, 4], 4), ([-1, -1, -1], 0), ([0, 0, 1], 1),
                             (list(range(120)), 119), ([-FAR, FAR], 2 * FAR), ([-5, -5], 1)]:
            with self.subTest(starts=starts, rise=rise):
                self.assertEqual(Line(starts, rise).at(0), starts[0])

    def test_a_call_that_fails_changes_nothing(self):
        starts = [0, 4, 3]
        self.check_raises(2, starts, 9)
        self.assertEqual(starts, [0, 4, 3])


class SumTest(LineCase):

    def check_line(self, line, wanted, span):
        """The line gives what is wanted near and far, and in its least form."""
        for place in list(range(-span, span + 1)) + [FAR + n for n in range(5)] + [-FAR - n for n in range(5)]:
            self.assertEqual(line.at(place), wanted(place))
        told = ([wanted(place) for place in range(span)], wanted(span) - wanted(0))
        self.assertEqual(len(line), least_period_told(told))
        self.assertEqual(line.starts, told[0][:len(line)])
        self.assertEqual(line.rise, wanted(len(line)) - wanted(0))

    def test_sums(self):
        chance = random.Random(3)
        pairs = [(one, other) for one in TOLD[:14] for other in TOLD[:14]]
        pairs += [(random_told(chance, 5), random_told(chance, 5)) for _ in range(60)]
        for one, other in pairs:
            with self.subTest(one=one, other=other):
                self.check_line(Line(one[0], one[1]) + Line(other[0], other[1]),
                                lambda n: value_told(one, n) + value_told(other, n),
                                lcm(len(one[0]), len(other[0])))

    def test_after(self):
        chance = random.Random(4)
        pairs = [(outer, inner) for outer in TOLD[:14] for inner in TOLD[:14]]
        pairs += [(random_told(chance, 5), random_told(chance, 5)) for _ in range(60)]
        for outer, inner in pairs:
            with self.subTest(outer=outer, inner=inner):
                self.check_line(Line(outer[0], outer[1]).after(Line(inner[0], inner[1])),
                                lambda n: value_told(outer, value_told(inner, n)),
                                len(outer[0]) * len(inner[0]))

    def test_the_order_of_after_matters(self):
        half, twice = Line([0, 0], 1), Line([0], 2)
        self.assertEqual(half.after(twice), Line([0], 1))
        self.assertEqual(twice.after(half), Line([0, 0], 2))
        self.assertEqual(half.after(inner=twice), Line([0], 1))

    def test_least_periods_get_lesser(self):
        half, other_half = Line([0, 0], 1), Line([0, 1], 1)
        self.assertEqual(((half + other_half).starts, (half + other_half).rise), ([0], 1))
        self.assertEqual(len(Line([0, 0, 0], 1).after(Line([0], 3))), 1)
        self.assertEqual(Line([0, 0], 1).after(Line([5], 0)), Line([2], 0))
        self.assertEqual(Line([8], 0).after(Line([0, 0], 1)), Line([8], 0))

    def test_great_periods(self):
        first = Line([0] * 119 + [1], 5)
        second = Line([0] * 118 + [1], 7)
        both = first + second
        self.assertEqual(len(both), 119 * 120)
        self.assertEqual(both.rise, 5 * 119 + 7 * 120)
        self.assertEqual(both.at(FAR), first.at(FAR) + second.at(FAR))
        inside = first.after(second)
        self.assertEqual(inside.at(-FAR), first.at(second.at(-FAR)))
        self.assertEqual(len(inside), 119 * 120)

    def test_neither_line_is_changed(self):
        first, second = Line([0, 2, 3], 5), Line([-1, 0], 4)
        self.assertIsNot(first + second, first)
        first.after(second)
        first.meeting(second, 0)
        first.parting(second, 0)
        first.least_at(4)
        self.assertEqual((first.starts, first.rise, len(first)), ([0, 2, 3], 5, 3))
        self.assertEqual((second.starts, second.rise, len(second)), ([-1, 0], 4, 2))


class LeastTest(LineCase):

    def test_least_of_all_integers(self):
        chance = random.Random(5)
        for told in TOLD[:20] + [random_told(chance) for _ in range(200)]:
            line = Line(told[0], told[1])
            if line.rise == 0:
                continue
            for value in range(-25, 26):
                with self.subTest(told=told, value=value):
                    place = line.least_at(value)
                    self.assertGreaterEqual(value_told(told, place), value)
                    self.assertLess(value_told(told, place - 1), value)

    def test_values_that_are_met_and_jumped_over(self):
        line = Line([0, 0, 5, 5], 10)
        self.assertEqual([line.least_at(value) for value in (-10, -6, -5, -4, -1, 0, 1, 4, 5, 6, 10)],
                         [-4, -2, -2, 0, 0, 0, 2, 2, 2, 4, 4])
        self.assertEqual(Line([0], 7).least_at(-8), -1)
        self.assertEqual(Line([0], 7).least_at(-7), -1)
        self.assertEqual(Line([0], 7).least_at(value=-6), 0)

    def test_a_value_far_from_the_starts(self):
        line = Line([-3, 1, 1, 2], 6)
        for value in [FAR, FAR + 1, FAR + 2, -FAR, -FAR - 1, -FAR - 2]:
            with self.subTest(value=value):
                place = line.least_at(value)
                self.assertGreaterEqual(line.at(place), value)
                self.assertLess(line.at(place - 1), value)

    def test_none_for_a_rise_of_0(self):
        for value in (2, 3, 4, -FAR, FAR):
            self.assertIsNone(Line([3], 0).least_at(value))
            self.assertIsNone(Line([3, 3, 3], 0).least_at(value))


class MeetingTest(LineCase):

    def first(self, one, other, start, alike, span):
        """The first place of so many from start on, place by place."""
        for place in range(start, start + span):
            if (value_told(one, place) == value_told(other, place)) == alike:
                return place
        return None

    def check_both(self, one, other, start, span):
        """Meeting and parting are right, if they lie within a span wherever they are."""
        first, second = Line(one[0], one[1]), Line(other[0], other[1])
        with self.subTest(one=one, other=other, start=start):
            self.assertEqual(first.meeting(second, start), self.first(one, other, start, True, span))
            self.assertEqual(second.meeting(first, start), self.first(one, other, start, True, span))
            self.assertEqual(first.parting(second, start), self.first(one, other, start, False, span))
            self.assertEqual(second.parting(first, start), self.first(one, other, start, False, span))

    def test_told_lines(self):
        for one in TOLD[:20]:
            for other in TOLD[:20]:
                for start in (-17, -2, 0, 3):
                    self.check_both(one, other, start, 200)

    def test_random_lines(self):
        chance = random.Random(6)
        for _ in range(600):
            one, other = random_told(chance, 4, 3), random_told(chance, 4, 3)
            if chance.choice([True, False]):
                # Starts that lie close together meet again and again.
                other = ([start - other[0][0] + one[0][0] for start in other[0]], other[1])
            self.check_both(one, other, chance.randint(-40, 40), 5000)

    def test_lines_that_rise_alike_meet_for_ever_or_never(self):
        one, other = Line([0, 0, 1, 1], 2), Line([0, 1, 1, 1], 2)
        self.assertEqual([one.meeting(other, start) for start in (0, 1, 2, 3, 4)], [0, 2, 2, 3, 4])
        self.assertEqual([one.parting(other, start) for start in (0, 1, 2, 3, 4)], [1, 1, 5, 5, 5])
        self.assertEqual(one.meeting(other, FAR * 4 + 1), FAR * 4 + 2)
        self.assertEqual(one.parting(other, -FAR * 4 + 2), -FAR * 4 + 5)
        self.assertIsNone(one.meeting(Line([5], 0) + one, -FAR))
        self.assertIsNone(Line([0], 1).meeting(Line([1], 1), FAR))

    def test_the_same_lines(self):
        one, other = Line([0, 2], 3), Line([0, 2, 3, 5], 6)
        for start in (0, 1, -5, FAR, -FAR):
            self.assertEqual(one.meeting(other, start), start)
            self.assertIsNone(one.parting(other, start))
            self.assertIsNone(one.parting(one, start))

    def test_lines_that_are_the_same_but_for_a_place(self):
        one = Line(list(range(0, 240, 2)), 240)
        for place in (0, 1, 60, 119):
            starts = list(range(0, 240, 2))
            starts[place] -= 1
            other = Line(starts, 240)
            for turn in (0, 5, -5, FAR, -FAR):
                with self.subTest(place=place, turn=turn):
                    here = 120 * turn + place
                    self.assertEqual(one.parting(other, here), here)
                    self.assertEqual(one.parting(other, here + 1), here + 120)
                    self.assertEqual(one.parting(other, here - 119), here)
                    self.assertEqual(one.meeting(other, here), here + 1)
                    self.assertEqual(one.meeting(other, here - 1), here - 1)

    def test_lines_that_meet_at_one_place_only(self):
        one, other = Line([0], 2), Line([FAR], 1)
        for start in (-FAR, -1, 0, 1, FAR - 1, FAR):
            self.assertEqual(one.meeting(other, start), FAR)
            self.assertEqual(other.meeting(one, start), FAR)
        self.assertIsNone(one.meeting(other, FAR + 1))
        self.assertIsNone(other.meeting(one, FAR + 1))
        self.assertEqual(one.parting(other, FAR), FAR + 1)
        self.assertEqual(one.parting(other, FAR - 1), FAR - 1)

    def test_lines_that_rise_apart_and_jump_over_each_other(self):
        self.assertEqual(Line([0], 3).meeting(Line([10], 1), -FAR), 5)
        self.assertIsNone(Line([0], 3).meeting(Line([11], 1), -FAR))
        self.assertIsNone(Line([0], 3).meeting(Line([10, 10], 2), -FAR))
        self.assertEqual(Line([0], 3).meeting(Line([11, 11], 2), -FAR), 5)
        self.assertEqual(Line([0], 1).meeting(Line([-FAR], 0), -2 * FAR), -FAR)
        self.assertIsNone(Line([0], 1).meeting(Line([-FAR], 0), -FAR + 1))

    def test_the_least_of_several_meetings_far_away(self):
        # Flat for ten places at a time, so that both are equal at several of them.
        slow, flat = Line([0] * 10, 11), Line([11 * FAR] * 2, 0)
        self.assertEqual(slow.meeting(flat, 0), 10 * FAR)
        self.assertEqual(slow.meeting(flat, 10 * FAR + 4), 10 * FAR + 4)
        self.assertEqual(slow.meeting(flat, 10 * FAR + 9), 10 * FAR + 9)
        self.assertIsNone(slow.meeting(flat, 10 * FAR + 10))
        # From a start within a flat part, its later places come up a period earlier than its first ones.
        self.assertEqual(slow.meeting(flat, 7), 10 * FAR)
        self.assertEqual(flat.meeting(slow, -3), 10 * FAR)

    def test_lines_that_rise_apart_part_behind_a_common_period(self):
        self.assertEqual(Line([0], 1).parting(Line([0, 1], 5), 0), 2)
        self.assertEqual(Line([0], 1).parting(Line([0, 1, 2], 4), 0), 3)
        self.assertEqual(Line([0, 1, 2], 4).parting(Line([0], 1), -1), -1)

    def test_great_periods(self):
        first = Line([0] * 119 + [1], 120)
        second = Line([0] * 118 + [1], 119)
        for start in (-FAR, 0, FAR):
            place = first.meeting(second, start)
            self.assertEqual(first.at(place), second.at(place))
            place = first.parting(second, start)
            self.assertNotEqual(first.at(place), second.at(place))
        self.assertIsNone(first.meeting(Line([FAR] * 118 + [FAR + 1], 119), 0))

    def test_arguments_by_name(self):
        half, third = Line([0, 0, 1, 1], 2), Line([0, 0, 0], 1)
        self.assertEqual(half.meeting(start=2, other=third), 3)
        self.assertIsNone(half.meeting(other=third, start=4))
        self.assertEqual(half.parting(start=0, other=third), 2)


if __name__ == "__main__":
    unittest.main()

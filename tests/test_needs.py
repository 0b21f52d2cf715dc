"""Tests of the cells that the output needs and of those that the input reaches [2] [3] [5] [6] [8] [9]."""

import inspect
import random
import time
import unittest

from fitsizes import needs as module
from fitsizes.errors import InvalidCell, InvalidNumber, NotFitting
from fitsizes.fitting import fitting_sizes
from fitsizes.needs import needs, reach, reached_by
from fitsizes.pipelines import Pipeline
from fitsizes.sizes import fits, size_line, sizes_at
from tests.cases import Case
from tests.plain import (APART, BRIDGE, TWICE, as_ranges, levelled_steps, moved_ranges, plain_fits, plain_sizes,
                         plain_table, random_steps, round_steps, spread_steps)

FAR = 10 ** 33
# What the period of each row divides: no product of strides up to 60 has higher powers of 2, 3 and 5.
ROUNDS = 2 ** 5 * 3 ** 3 * 5 ** 2


class NeedsCase(Case):

    def check_needs(self, steps, size, told):
        """told: the ranges by the (first, last) output cells."""
        for cells in told:
            with self.subTest(steps=steps, size=size, cells=cells):
                self.assertEqual(needs(Pipeline(steps), size, *cells), told[cells])

    def check_reach(self, steps, size, told):
        """told: the ranges by the (first, last) input cells."""
        for cells in told:
            with self.subTest(steps=steps, size=size, cells=cells):
                self.assertEqual(reach(Pipeline(steps), size, *cells), told[cells])


class InterfaceTest(NeedsCase):

    def test_names_and_arguments(self):
        for name, told in [("needs", ["pipeline", "size", "first", "last"]),
                           ("reach", ["pipeline", "size", "first", "last"]),
                           ("reached_by", ["pipeline", "size", "output", "cell"])]:
            with self.subTest(name=name):
                function = getattr(module, name)
                self.assertEqual(function.__module__, "fitsizes.needs")
                self.assertEqual(list(inspect.signature(function).parameters), told)

    def test_example_of_the_document(self):
        bridge, apart = Pipeline(BRIDGE), Pipeline(APART)
        self.assertEqual(
            [needs(bridge, 8, 0, 0), needs(bridge, 8, 7, 7), reach(bridge, 8, 7, 7), needs(apart, 40, 3, 3),
             reached_by(apart, 40, 3, 23)],
            [[(0, 3)], [(1, 7)], [(4, 7)], [(3, 3), (23, 23)], True])

    def test_arguments_by_name(self):
        apart = Pipeline(APART)
        self.assertEqual(needs(last=4, first=3, size=40, pipeline=apart), [(3, 4), (23, 24)])
        self.assertEqual(reach(last=24, first=3, size=40, pipeline=apart), [(0, 19)])
        self.assertIs(reached_by(cell=23, output=3, size=40, pipeline=apart), True)
        self.check_raises(InvalidCell, 20, needs, last=20, first=3, size=40, pipeline=apart)
        self.check_raises(InvalidCell, -3, reach, last=20, first=-3, size=40, pipeline=apart)
        self.check_raises(InvalidCell, 40, reached_by, cell=40, output=3, size=40, pipeline=apart)
        self.check_raises(NotFitting, 1, needs, last=2, first=1, size=20, pipeline=apart)

    def test_no_argument_is_changed_and_returned_lists_are_new(self):
        told = list(APART)
        pipeline = Pipeline(told)
        told[:] = [("crop", 0, 9, 9)]
        for function, cells, ranges in [(needs, (3, 3), [(3, 3), (23, 23)]), (reach, (23, 23), [(3, 3)])]:
            first = function(pipeline, 40, *cells)
            self.assertIs(type(first), list)
            self.assertEqual({type(one) for one in first}, {tuple})
            first.append((0, 0))
            first[0] = None
            self.assertEqual(function(pipeline, 40, *cells), ranges)
        self.assertIs(reached_by(pipeline, 40, 3, 23), True)
        self.assertEqual(pipeline, Pipeline(APART))
        empty = Pipeline([])
        needs(empty, 5, 1, 3).append(9)
        self.assertEqual(needs(empty, 5, 1, 3), [(1, 3)])


class WordsTest(NeedsCase):

    def test_without_steps(self):
        self.check_needs([], 9, {(0, 0): [(0, 0)], (8, 8): [(8, 8)], (2, 5): [(2, 5)], (0, 8): [(0, 8)]})
        self.check_reach([], 9, {(0, 0): [(0, 0)], (8, 8): [(8, 8)], (2, 5): [(2, 5)], (0, 8): [(0, 8)]})

    def test_windows(self):
        steps = [("window", 0, 3, 1, 0)]
        self.check_needs(steps, 9, {(0, 0): [(0, 2)], (6, 6): [(6, 8)], (2, 4): [(2, 6)], (0, 6): [(0, 8)]})
        self.check_reach(steps, 9, {(0, 0): [(0, 0)], (1, 1): [(0, 1)], (4, 4): [(2, 4)], (8, 8): [(6, 6)],
                                    (2, 3): [(0, 3)]})

    def test_windows_with_pads_and_strides(self):
        steps = [("window", 0, 5, 3, 2)]
        self.assertEqual(sizes_at(Pipeline(steps), 9), [9, 3])
        self.check_needs(steps, 9, {(0, 0): [(0, 2)], (1, 1): [(1, 5)], (2, 2): [(4, 8)], (1, 2): [(1, 8)],
                                    (0, 1): [(0, 5)]})
        self.check_reach(steps, 9, {(0, 0): [(0, 0)], (1, 1): [(0, 1)], (3, 3): [(1, 1)], (4, 4): [(1, 2)],
                                    (6, 8): [(2, 2)], (2, 4): [(0, 2)]})
        steps = [("window", 0, 9, 1, 8)]
        self.check_needs(steps, 2, {(0, 0): [(0, 0)], (1, 1): [(0, 1)], (9, 9): [(1, 1)], (8, 9): [(0, 1)]})
        self.check_reach(steps, 2, {(0, 0): [(0, 8)], (1, 1): [(1, 9)]})
        steps = [("window", 0, 3, 3, 0)]
        self.check_needs(steps, 6, {(0, 0): [(0, 2)], (1, 1): [(3, 5)], (0, 1): [(0, 5)]})
        self.check_reach(steps, 6, {(2, 2): [(0, 0)], (3, 3): [(1, 1)], (2, 3): [(0, 1)]})

    def test_repetitions(self):
        steps = [("repeat", 0, 4)]
        self.check_needs(steps, 3, {(0, 0): [(0, 0)], (3, 3): [(0, 0)], (4, 4): [(1, 1)], (3, 4): [(0, 1)],
                                    (0, 11): [(0, 2)]})
        self.check_reach(steps, 3, {(0, 0): [(0, 3)], (2, 2): [(8, 11)], (0, 1): [(0, 7)]})

    def test_crops(self):
        steps = [("crop", 0, 2, 3)]
        self.check_needs(steps, 9, {(0, 0): [(2, 2)], (3, 3): [(5, 5)], (1, 2): [(3, 4)]})
        self.check_reach(steps, 9, {(0, 1): [], (2, 2): [(0, 0)], (5, 5): [(3, 3)], (6, 6): [], (8, 8): [],
                                    (0, 8): [(0, 3)], (0, 3): [(0, 1)], (4, 7): [(2, 3)]})

    def test_pads(self):
        steps = [("pad", 0, 2, 3)]
        self.check_needs(steps, 4, {(0, 0): [], (0, 1): [], (1, 2): [(0, 0)], (5, 5): [(3, 3)], (6, 6): [], (6, 8): [],
                                    (0, 8): [(0, 3)], (5, 8): [(3, 3)]})
        self.check_reach(steps, 4, {(0, 0): [(2, 2)], (3, 3): [(5, 5)], (0, 3): [(2, 5)]})

    def test_cropped_and_padded_again(self):
        steps = [("crop", 0, 2, 1), ("pad", 1, 2, 1)]
        self.check_needs(steps, 6, {(0, 1): [], (2, 2): [(2, 2)], (4, 4): [(4, 4)], (5, 5): [], (0, 5): [(2, 4)]})
        self.check_reach(steps, 6, {(0, 1): [], (2, 2): [(2, 2)], (5, 5): [], (0, 5): [(2, 4)]})

    def test_rows_that_leave_out_cells(self):
        steps = [("window", 0, 3, 3, 0)]
        self.check_needs(steps, 8, {(1, 1): [(3, 5)], (0, 1): [(0, 5)]})
        self.check_reach(steps, 8, {(5, 6): [(1, 1)], (6, 6): [], (6, 7): [], (7, 7): []})
        steps = [("window", 0, 4, 3, 0), ("window", 1, 2, 2, 0)]
        self.assertEqual(sizes_at(Pipeline(steps), 12), [12, 3, 1])
        self.check_needs(steps, 12, {(0, 0): [(0, 6)]})
        self.check_reach(steps, 12, {(6, 6): [(0, 0)], (7, 7): [], (7, 11): [], (6, 11): [(0, 0)]})

    def test_joins(self):
        steps = [("crop", 0, 0, 5), ("crop", 0, 5, 0), ("join", 1, 2)]
        self.check_needs(steps, 12, {(0, 0): [(0, 0), (5, 5)], (6, 6): [(6, 6), (11, 11)], (1, 3): [(1, 3), (6, 8)],
                                     (1, 4): [(1, 4), (6, 9)], (1, 5): [(1, 10)], (0, 6): [(0, 11)]})
        self.check_reach(steps, 12, {(0, 0): [(0, 0)], (5, 5): [(0, 0), (5, 5)], (6, 6): [(1, 1), (6, 6)],
                                     (7, 7): [(2, 2)], (5, 8): [(0, 3), (5, 6)], (5, 9): [(0, 6)]})

    def test_both_rows_of_a_join_count_whatever_their_order(self):
        for pair in [(0, 2), (2, 0)]:
            steps = [("crop", 0, 2, 0), ("pad", 1, 0, 2), ("join",) + pair]
            self.check_needs(steps, 6, {(1, 1): [(1, 1), (3, 3)], (5, 5): [(5, 5)], (3, 3): [(3, 3), (5, 5)]})
            self.check_reach(steps, 6, {(0, 0): [(0, 0)], (3, 3): [(1, 1), (3, 3)]})

    def test_ranges_that_touch_are_one(self):
        steps = [("crop", 0, 0, 3), ("crop", 0, 3, 0), ("join", 1, 2)]
        self.check_needs(steps, 9, {(0, 1): [(0, 1), (3, 4)], (0, 2): [(0, 5)], (1, 3): [(1, 6)],
                                    (2, 2): [(2, 2), (5, 5)]})
        self.check_reach(steps, 9, {(3, 4): [(0, 1), (3, 4)], (3, 5): [(0, 5)], (3, 3): [(0, 0), (3, 3)]})
        steps = [("crop", 0, 0, 1), ("crop", 0, 1, 0), ("join", 2, 1)]
        self.check_needs(steps, 9, {(0, 0): [(0, 1)], (7, 7): [(7, 8)]})
        self.check_reach(steps, 9, {(0, 0): [(0, 0)], (4, 4): [(3, 4)]})

    def test_a_range_within_another_one(self):
        steps = [("window", 0, 9, 1, 4), ("join", 0, 1), ("join", 1, 2)]
        self.check_needs(steps, 30, {(10, 10): [(6, 14)], (12, 13): [(8, 17)]})
        self.check_reach(steps, 30, {(10, 10): [(6, 14)], (0, 0): [(0, 4)]})
        steps = [("window", 0, 9, 1, 4), ("join", 0, 1), ("crop", 2, 0, 20), ("crop", 2, 20, 0), ("join", 3, 4)]
        self.check_needs(steps, 50, {(10, 10): [(6, 14), (26, 34)], (20, 20): [(16, 24), (36, 44)]})
        steps = [("crop", 0, 0, 20), ("crop", 0, 20, 0), ("join", 1, 2), ("window", 3, 9, 1, 4), ("join", 3, 4)]
        self.check_reach(steps, 50, {(25, 25): [(1, 9), (21, 29)]})

    def test_several_joins(self):
        steps = [("crop", 0, 0, 20), ("crop", 0, 20, 0), ("join", 1, 2), ("crop", 3, 0, 8), ("crop", 3, 8, 0),
                 ("join", 4, 5)]
        self.check_needs(steps, 40, {(0, 0): [(0, 0), (8, 8), (20, 20), (28, 28)],
                                     (3, 6): [(3, 6), (11, 14), (23, 26), (31, 34)], (0, 7): [(0, 15), (20, 35)],
                                     (0, 11): [(0, 39)]})
        self.check_reach(steps, 40, {(0, 0): [(0, 0)], (8, 8): [(0, 0), (8, 8)], (28, 28): [(0, 0), (8, 8)],
                                     (9, 29): [(0, 11)], (15, 19): [(7, 11)], (12, 12): [(4, 4)]})

    def test_ranges_behind_the_first_that_touch(self):
        steps = [("crop", 0, 0, 1), ("crop", 0, 1, 0), ("join", 1, 2), ("crop", 3, 0, 8), ("crop", 3, 8, 0),
                 ("join", 4, 5)]
        self.check_needs(steps, 40, {(0, 0): [(0, 1), (8, 9)], (3, 4): [(3, 5), (11, 13)], (3, 9): [(3, 18)]})
        self.check_reach(steps, 40, {(20, 20): [(11, 12), (19, 20)], (9, 9): [(0, 1), (8, 9)], (20, 26): [(11, 26)]})

    def test_rows_that_the_output_does_not_use(self):
        steps = [("window", 0, 5, 1, 2), ("repeat", 0, 2)]
        self.check_needs(steps, 9, {(7, 8): [(3, 4)]})
        self.check_reach(steps, 9, {(3, 3): [(6, 7)]})

    def test_smallest_and_greatest_cells(self):
        for steps, size in [(BRIDGE, 4), (BRIDGE, 8), (TWICE, 10), (APART, 21), (APART, 40), ([], 1)]:
            pipeline = Pipeline(steps)
            out = plain_sizes(steps, size)[-1]
            table = plain_table(steps, size)
            self.check_needs(steps, size, {(0, 0): as_ranges(table[0]), (out - 1, out - 1): as_ranges(table[out - 1]),
                                           (0, out - 1): as_ranges(set().union(*table))})
            for first, last in [(0, 0), (size - 1, size - 1), (0, size - 1)]:
                reach(pipeline, size, first, last)
            for output in (0, out - 1):
                for cell in (0, size - 1):
                    self.assertIs(reached_by(pipeline, size, output, cell), cell in table[output])


class CellByCellTest(NeedsCase):

    def some_case(self, chance, turn):
        """Steps and a size that fits them, with an output that is not too great to go through, or None."""
        if turn % 4 == 0:
            steps = spread_steps(chance)
        elif turn % 4 == 1:
            steps = round_steps(chance, chance.randint(1, 40))
        elif turn % 4 == 2:
            steps = levelled_steps(chance)[0]
        else:
            steps = random_steps(chance)
        sizes = [size for size in range(1, 75) if plain_fits(steps, size) and max(plain_sizes(steps, size)) < 350]
        return (steps, chance.choice(sizes)) if sizes else None

    def test_compared_with_going_cell_by_cell(self):
        chance = random.Random(41)
        many = set()
        for turn in range(500):
            case = self.some_case(chance, turn)
            if case is None:
                continue
            steps, size = case
            pipeline = Pipeline(steps)
            table = plain_table(steps, size)
            for _ in range(6):
                first = chance.randrange(len(table))
                last = chance.choice([first, min(first + 1, len(table) - 1), chance.randrange(first, len(table))])
                told = needs(pipeline, size, first, last)
                self.assertEqual(told, as_ranges(set().union(*table[first:last + 1])), (steps, size, first, last))
                many.add(("needs", len(told)))
                first = chance.randrange(size)
                last = chance.choice([first, min(first + 1, size - 1), chance.randrange(first, size)])
                told = reach(pipeline, size, first, last)
                cells = set(range(first, last + 1))
                plain = as_ranges({cell for cell in range(len(table)) if table[cell] & cells})
                self.assertEqual(told, plain, (steps, size, first, last))
                many.add(("reach", len(told)))
                output, cell = chance.randrange(len(table)), chance.randrange(size)
                told = reached_by(pipeline, size, output, cell)
                self.assertIs(told, cell in table[output], (steps, size, output, cell))
        for word in ("needs", "reach"):
            for number in (0, 1, 2, 3):
                self.assertIn((word, number), many)

    def test_reached_exactly_if_needed(self):
        for steps, size in [(BRIDGE, 12), (TWICE, 10), (APART, 33), ([], 3), ([("window", 0, 5, 3, 2)], 11),
                            ([("window", 0, 3, 3, 0)], 11), ([("crop", 0, 2, 3), ("pad", 1, 4, 0)], 9)]:
            pipeline = Pipeline(steps)
            table = plain_table(steps, size)
            for output in range(len(table)):
                needed = needs(pipeline, size, output, output)
                for cell in range(size):
                    reached = reach(pipeline, size, cell, cell)
                    told = reached_by(pipeline, size, output, cell)
                    self.assertIs(told, cell in table[output], (steps, size, output, cell))
                    self.assertIs(told, any(first <= cell <= last for first, last in needed))
                    self.assertIs(told, any(first <= output <= last for first, last in reached))


class FarTest(NeedsCase):

    def test_single_cells(self):
        half = 5 * 10 ** 32
        window = Pipeline([("window", 0, 3, 2, 0)])
        self.assertEqual(needs(window, FAR, half - 2, half - 2), [(FAR - 4, FAR - 2)])
        self.assertEqual(reach(window, FAR, FAR - 2, FAR - 2), [(half - 2, half - 2)])
        self.assertEqual(reach(window, FAR, FAR - 4, FAR - 4), [(half - 3, half - 2)])
        self.assertEqual(reach(window, FAR, FAR - 1, FAR - 1), [])
        repeat = Pipeline([("repeat", 0, 6), ("crop", 1, 5, 0)])
        self.assertEqual(needs(repeat, FAR, 6 * FAR - 6, 6 * FAR - 6), [(FAR - 1, FAR - 1)])
        self.assertEqual(needs(repeat, FAR, 6 * FAR - 12, 6 * FAR - 11), [(FAR - 2, FAR - 1)])
        self.assertEqual(reach(repeat, FAR, FAR - 1, FAR - 1), [(6 * FAR - 11, 6 * FAR - 6)])
        pad = Pipeline([("pad", 0, 7, 9)])
        self.assertEqual(needs(pad, FAR, FAR + 6, FAR + 15), [(FAR - 1, FAR - 1)])
        self.assertEqual(needs(pad, FAR, FAR + 7, FAR + 15), [])
        apart = Pipeline(APART)
        self.assertEqual(needs(apart, FAR, FAR - 21, FAR - 21), [(FAR - 21, FAR - 21), (FAR - 1, FAR - 1)])
        self.assertEqual(reach(apart, FAR, half, half), [(half - 20, half - 20), (half, half)])
        self.assertIs(reached_by(apart, FAR, half - 20, half), True)
        self.assertIs(reached_by(apart, FAR, half, half), True)
        self.assertIs(reached_by(apart, FAR, half - 19, half), False)
        self.assertIs(reached_by(apart, FAR, FAR - 21, FAR - 1), True)
        self.assertIs(reached_by(apart, FAR, 0, FAR - 1), False)

    def test_runs(self):
        bridge, apart = Pipeline(BRIDGE), Pipeline(APART)
        self.assertEqual(needs(bridge, FAR, 0, FAR - 1), [(0, FAR - 1)])
        self.assertEqual(needs(bridge, FAR, 400, FAR - 401), [(397, FAR - 401)])
        self.assertEqual(reach(bridge, FAR, 400, FAR - 401), [(400, FAR - 397)])
        self.assertEqual(needs(apart, FAR, 10 ** 20, 10 ** 20 + 18), [(10 ** 20, 10 ** 20 + 18),
                                                                      (10 ** 20 + 20, 10 ** 20 + 38)])
        self.assertEqual(needs(apart, FAR, 10 ** 20, 10 ** 30), [(10 ** 20, 10 ** 30 + 20)])
        self.assertEqual(reach(apart, FAR, 10 ** 20, 10 ** 30), [(10 ** 20 - 20, 10 ** 30)])
        self.assertEqual(reach(Pipeline([("window", 0, 9, 6, 8)]), FAR, 1, FAR - 1), [(1, (FAR + 7) // 6)])

    def test_moved_by_whole_rounds(self):
        """What is far in a row is as it is near, moved: all rows of a form of the second kind rise in step."""
        chance = random.Random(42)
        tried = 0
        while tried < 120:
            steps = spread_steps(chance) if tried % 2 else round_steps(chance, chance.randint(1, 40))
            pipeline = Pipeline(steps)
            if fitting_sizes(pipeline)[0] == "some":
                continue
            tried += 1
            size = 400
            while not plain_fits(steps, size):
                size += 1
            line = size_line(pipeline, len(steps))
            turns = ROUNDS * chance.randint(10 ** 28, 10 ** 29)
            by, out_by = turns, turns // len(line) * line.rise
            self.assertTrue(fits(pipeline, size + by))
            out = plain_sizes(steps, size)[-1]
            # The right half, where no cell that there is not at the left end can be in the way.
            first = chance.randrange(out // 2, out)
            last = chance.choice([first, chance.randrange(first, out)])
            self.assertEqual(needs(pipeline, size + by, first + out_by, last + out_by),
                             moved_ranges(needs(pipeline, size, first, last), by), (steps, size, first, last))
            first = chance.randrange(size // 2, size)
            last = chance.choice([first, chance.randrange(first, size)])
            told = reach(pipeline, size, first, last)
            self.assertEqual(reach(pipeline, size + by, first + by, last + by), moved_ranges(told, out_by))
            output, cell = chance.randrange(out // 2, out), chance.randrange(size // 2, size)
            self.assertIs(reached_by(pipeline, size + by, output + out_by, cell + by),
                          reached_by(pipeline, size, output, cell))
            # At the left end nothing changes but the size.
            last = chance.randrange(0, out // 2)
            self.assertEqual(needs(pipeline, size + by, 0, last), needs(pipeline, size, 0, last))
            last = chance.randrange(0, size // 2)
            self.assertEqual(reach(pipeline, size + by, 0, last), reach(pipeline, size, 0, last))

    def test_in_a_short_time(self):
        steps = [("window", 0, 9, 5, 2), ("repeat", 1, 5), ("pad", 0, 0, 30), ("crop", 3, 30, 0), ("join", 0, 4),
                 ("crop", 5, 0, 20), ("crop", 5, 20, 0), ("join", 6, 7)]
        pipeline = Pipeline(steps)
        began = time.process_time()
        for _ in range(200):
            needs(pipeline, FAR, 3, FAR - 60)
            reach(pipeline, FAR, 3, FAR - 60)
            reached_by(pipeline, FAR, FAR - 60, FAR - 60)
        self.assertLess(time.process_time() - began, 10)


class ErrorsTest(NeedsCase):

    def test_size_check_first(self):
        for steps in ([], BRIDGE, TWICE, APART, [("crop", 0, 9, 0)]):
            for function in (needs, reach, reached_by):
                for size in (0, -1, -FAR):
                    self.check_raises(InvalidNumber, size, function, Pipeline(steps), size, 0, 0)
                    self.check_raises(InvalidNumber, size, function, Pipeline(steps), size, -1, -2)

    def test_fit_check_ahead_of_the_cells(self):
        for steps, size, row in [(BRIDGE, 6, 4), (TWICE, 9, 3), (APART, 20, 1), ([("crop", 0, 9, 0)], 9, 1),
                                 ([("crop", 0, 1, 0), ("crop", 0, 9, 0), ("join", 0, 1)], 9, 2),
                                 ([("pad", 0, 1, 0), ("join", 0, 1), ("crop", 0, 9, 0)], 9, 2), (TWICE, FAR, 3)]:
            for function in (needs, reach, reached_by):
                for cells in [(0, 0), (-1, 0), (0, -1), (FAR * 9, FAR * 9), (2, 1)]:
                    self.check_raises(NotFitting, row, function, Pipeline(steps), size, *cells)

    def check_cells(self, function, pipeline, size, many):
        """many: how many cells there are to ask for."""
        for first, last, value in [(-1, 0, -1), (many, many, many), (many, 0, many), (-1, -1, -1), (-1, -2, -1),
                                   (many, -2, many), (-FAR, 2 * many, -FAR), (-1, many, -1), (0, many, many),
                                   (many - 1, many, many), (0, -1, -1), (0, many + 7, many + 7), (2, 1, 1),
                                   (many - 1, many - 2, many - 2), (many - 1, 0, 0), (many - 1, -5, -5),
                                   (9 * FAR, 0, 9 * FAR), (0, 9 * FAR, 9 * FAR), (0, -FAR, -FAR)]:
            self.check_raises(InvalidCell, value, function, pipeline, size, first, last)
        for first, last in [(0, 0), (0, many - 1), (many - 1, many - 1), (1, 2), (1, 1)]:
            function(pipeline, size, first, last)

    def test_output_cells_of_needs(self):
        self.check_cells(needs, Pipeline(BRIDGE), 8, 8)
        self.check_cells(needs, Pipeline(TWICE), 10, 20)
        self.check_cells(needs, Pipeline(APART), 40, 20)
        self.check_cells(needs, Pipeline(APART), FAR, FAR - 20)
        self.check_cells(needs, Pipeline([]), 4, 4)

    def test_input_cells_of_reach(self):
        self.check_cells(reach, Pipeline(BRIDGE), 8, 8)
        self.check_cells(reach, Pipeline(TWICE), 10, 10)
        self.check_cells(reach, Pipeline(APART), 40, 40)
        self.check_cells(reach, Pipeline(APART), FAR, FAR)
        self.check_cells(reach, Pipeline([]), 4, 4)

    def test_cells_of_reached_by(self):
        for steps, size in [(BRIDGE, 8), (TWICE, 10), (APART, 40), (APART, FAR), ([], 4)]:
            pipeline = Pipeline(steps)
            out = plain_sizes(steps, size)[-1]
            for output, cell, value in [(-1, 0, -1), (out, 0, out), (-1, -2, -1), (out, size, out), (0, -1, -1),
                                        (out + 5, -1, out + 5), (0, size, size), (out - 1, size, size),
                                        (out - 1, -7, -7),
                                        (0, size + 9, size + 9), (-FAR, size, -FAR), (0, -FAR, -FAR)]:
                self.check_raises(InvalidCell, value, reached_by, pipeline, size, output, cell)
            for output, cell in [(0, 0), (out - 1, 0), (0, size - 1), (out - 1, size - 1), (2, 1), (1, 2)]:
                self.assertIn(reached_by(pipeline, size, output, cell), (True, False))
        self.assertIs(reached_by(Pipeline([]), 4, 3, 1), False)


if __name__ == "__main__":
    unittest.main()

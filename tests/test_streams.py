"""Tests of the cells that rows keep while the output is made [2] [3] [5] [6] [8] [10]."""

import random
import time
import unittest

from fitsizes import streams as module
from fitsizes.errors import InvalidCell, InvalidNumber, InvalidRow, NotFitting, NotSteady
from fitsizes.fitting import next_fitting
from fitsizes.pipelines import Pipeline
from fitsizes.sizes import sizes_at
from fitsizes.streams import kept, steady_kept
from tests.cases import Case, steady_pipelines
from tests.plain import (APART, BRIDGE, TWICE, as_ranges, levelled_steps, moved_ranges, plain_fits, plain_kept,
                         plain_needs, plain_sizes, random_steps, round_steps, spread_steps, steady_steps)

FAR = 10 ** 33
# What the period of each row divides: no product of strides up to 60 has higher powers of 2, 3 and 5.
ROUNDS = 2 ** 5 * 3 ** 3 * 5 ** 2

# What fits no size.
NEVER = [("pad", 0, 1, 0), ("join", 0, 1)]
# Output cells use two rows of which one is behind the other, by two windows.
BEHIND = [("window", 0, 3, 1, 1), ("window", 1, 3, 1, 1), ("join", 2, 0)]


def cells_in(ranges):
    return sum(last - first + 1 for first, last in ranges)


class InterfaceTest(Case):

    def test_names_and_arguments(self):
        self.check_functions(module, {"kept": ["pipeline", "size", "row", "cell"],
                                      "steady_kept": ["pipeline", "row"]})

    def test_example_of_the_document(self):
        bridge = Pipeline(BRIDGE)
        self.assertEqual([kept(bridge, 8, 0, 0), kept(bridge, 8, 0, 7), [steady_kept(bridge, row) for row in range(5)]],
                         [[(0, 3)], [(1, 7)], [7, 3, 1, 1, 1]])

    def test_arguments_by_name(self):
        bridge = Pipeline(BRIDGE)
        self.assertEqual(kept(cell=7, row=0, size=8, pipeline=bridge), [(1, 7)])
        self.assertEqual(kept(cell=7, row=1, size=8, pipeline=bridge), [(1, 3)])
        self.assertEqual(steady_kept(row=1, pipeline=bridge), 3)
        self.check_raises(InvalidRow, 5, kept, cell=9, row=5, size=8, pipeline=bridge)
        self.check_raises(InvalidCell, 8, kept, cell=8, row=4, size=8, pipeline=bridge)
        self.check_raises(InvalidRow, -1, steady_kept, row=-1, pipeline=bridge)

    def test_no_argument_is_changed_and_returned_lists_are_new(self):
        told = list(APART)
        pipeline = Pipeline(told)
        told[:] = [("crop", 0, 9, 9)]
        for row, cell, ranges in [(0, 5, [(5, 5), (20, 25)]), (1, 5, [(5, 5)]), (3, 5, [(5, 5)])]:
            first = kept(pipeline, 100, row, cell)
            self.assertIs(type(first), list)
            self.assertEqual({type(one) for one in first}, {tuple})
            first.append((0, 0))
            first[0] = None
            self.assertEqual(kept(pipeline, 100, row, cell), ranges)
        self.assertEqual(steady_kept(pipeline, 0), 21)
        self.assertEqual(pipeline.steps, APART)
        pad = Pipeline([("pad", 0, 2, 2)])
        kept(pad, 5, 0, 0).append((1, 1))
        self.assertEqual(kept(pad, 5, 0, 0), [])


class KeptTest(Case):

    def check_kept(self, steps, size, row, told):
        """told: the ranges by the output cell."""
        for cell in told:
            with self.subTest(steps=steps, size=size, row=row, cell=cell):
                self.assertEqual(kept(Pipeline(steps), size, row, cell), told[cell])

    def test_without_steps(self):
        self.check_kept([], 9, 0, {cell: [(cell, cell)] for cell in range(9)})
        self.check_kept([], 1, 0, {0: [(0, 0)]})

    def test_windows(self):
        steps = [("window", 0, 3, 1, 0)]
        self.check_kept(steps, 9, 0, {0: [(0, 2)], 1: [(1, 3)], 6: [(6, 8)]})
        self.check_kept(steps, 9, 1, {0: [(0, 0)], 6: [(6, 6)]})
        steps = [("window", 0, 5, 3, 2)]
        self.check_kept(steps, 9, 0, {0: [(0, 2)], 1: [(1, 5)], 2: [(4, 8)]})
        steps = [("window", 0, 3, 3, 0)]
        self.check_kept(steps, 8, 0, {0: [(0, 2)], 1: [(3, 5)]})
        steps = [("window", 0, 9, 1, 8)]
        self.check_kept(steps, 2, 0, {0: [(0, 0)], 1: [(0, 1)], 8: [(0, 1)], 9: [(1, 1)]})

    def test_repetitions(self):
        steps = [("repeat", 0, 4)]
        self.check_kept(steps, 3, 0, {0: [(0, 0)], 3: [(0, 0)], 4: [(1, 1)], 11: [(2, 2)]})
        self.check_kept(steps, 3, 1, {0: [(0, 0)], 3: [(3, 3)], 11: [(11, 11)]})

    def test_crops_and_pads(self):
        self.check_kept([("crop", 0, 2, 3)], 9, 0, {0: [(2, 2)], 3: [(5, 5)]})
        self.check_kept([("pad", 0, 2, 3)], 4, 0, {0: [], 1: [], 2: [(0, 0)], 5: [(3, 3)], 6: [], 8: []})
        self.check_kept([("pad", 0, 2, 3)], 4, 1, {0: [(0, 0)], 2: [(2, 2)], 8: [(8, 8)]})
        steps = [("crop", 0, 2, 1), ("pad", 1, 2, 1)]
        self.check_kept(steps, 6, 0, {0: [], 2: [(2, 2)], 4: [(4, 4)], 5: []})

    def test_joins_of_rows_far_apart(self):
        self.check_kept(APART, 40, 0, {0: [(0, 0), (20, 20)], 5: [(5, 5), (25, 25)], 19: [(19, 19), (39, 39)]})
        self.check_kept(APART, 100, 0, {0: [(0, 0), (20, 20)], 5: [(5, 5), (20, 25)], 18: [(18, 18), (20, 38)],
                                        19: [(19, 39)], 20: [(20, 40)], 40: [(40, 60)], 60: [(60, 80)],
                                        61: [(61, 79), (81, 81)], 70: [(70, 79), (90, 90)], 79: [(79, 79), (99, 99)]})
        for row in (1, 2, 3):
            self.check_kept(APART, 100, row, {cell: [(cell, cell)] for cell in (0, 1, 40, 79)})

    def test_ranges_that_touch_are_one(self):
        steps = [("crop", 0, 0, 3), ("crop", 0, 3, 0), ("join", 1, 2)]
        self.check_kept(steps, 20, 0, {0: [(0, 0), (3, 3)], 1: [(1, 1), (3, 4)], 2: [(2, 5)], 3: [(3, 6)],
                                       14: [(14, 17)], 15: [(15, 16), (18, 18)], 16: [(16, 16), (19, 19)]})

    def test_rows_one_behind_the_other(self):
        self.check_kept(BEHIND, 10, 0, {0: [(0, 2)], 1: [(0, 3)], 2: [(0, 4)], 5: [(3, 7)], 9: [(7, 9)]})
        self.check_kept(BEHIND, 10, 1, {0: [(0, 1)], 1: [(0, 2)], 5: [(4, 6)], 9: [(8, 9)]})
        late = [("crop", 0, 0, 9), ("crop", 0, 9, 0), ("window", 2, 3, 1, 1), ("join", 1, 3)]
        self.check_kept(late, 40, 0, {0: [(0, 0), (9, 10)], 15: [(15, 25)], 30: [(30, 30), (38, 39)]})
        self.check_kept(late, 40, 2, {0: [(0, 1)], 15: [(14, 16)], 30: [(29, 30)]})

    def test_rows_that_no_output_needs(self):
        steps = [("window", 0, 5, 1, 2), ("repeat", 1, 2), ("repeat", 0, 2)]
        for row in (1, 2):
            self.check_kept(steps, 9, row, {cell: [] for cell in range(18)})
        self.check_kept(steps, 9, 0, {0: [(0, 0)], 17: [(8, 8)]})

    def test_cells_that_no_output_needs(self):
        # The last two of 8 cells are behind the last window.
        self.check_kept([("window", 0, 3, 3, 0)], 8, 0, {0: [(0, 2)], 1: [(3, 5)]})
        self.check_kept([("window", 0, 3, 3, 0), ("pad", 1, 1, 1)], 8, 0, {0: [], 1: [(0, 2)], 2: [(3, 5)], 3: []})

    def test_needed_before_and_after_but_not_by_the_cell_itself(self):
        # Output 1 needs the cells 1 and 4 alone, but 3 is needed by the outputs 0 and 3.
        steps = [("crop", 0, 0, 3), ("crop", 0, 3, 0), ("join", 1, 2)]
        self.check_kept(steps, 10, 0, {1: [(1, 1), (3, 4)], 2: [(2, 5)]})

    def test_compared_with_going_cell_by_cell(self):
        chance = random.Random(61)
        many = set()
        for turn in range(260):
            steps = [random_steps, spread_steps, steady_steps, lambda c: levelled_steps(c)[0],
                     lambda c: round_steps(c, c.randint(1, 40))][turn % 5](chance)
            sizes = [size for size in range(1, 75) if plain_fits(steps, size) and max(plain_sizes(steps, size)) < 350]
            if not sizes:
                continue
            size = chance.choice(sizes)
            pipeline = Pipeline(steps)
            table = plain_needs(steps, size)
            for row in range(len(steps) + 1):
                plain = plain_kept(table, row)
                for cell in {0, len(table) - 1, chance.randrange(len(table)), chance.randrange(len(table))}:
                    told = kept(pipeline, size, row, cell)
                    self.assertEqual(told, as_ranges(plain[cell]), (steps, size, row, cell))
                    many.add(len(told))
        self.assertTrue({0, 1, 2} <= many and max(many) > 2, many)


class FarTest(Case):

    def test_near_both_ends_and_in_the_middle(self):
        apart, half = Pipeline(APART), FAR // 2
        for cell, ranges in [(0, [(0, 0), (20, 20)]), (5, [(5, 5), (20, 25)]), (half, [(half, half + 20)]),
                             (FAR - 21, [(FAR - 21, FAR - 21), (FAR - 1, FAR - 1)]),
                             (FAR - 26, [(FAR - 26, FAR - 21), (FAR - 6, FAR - 6)])]:
            self.assertEqual(kept(apart, FAR, 0, cell), ranges)
            self.assertEqual(kept(apart, FAR, 1, cell), [(cell, cell)])
        bridge = Pipeline(BRIDGE)
        self.assertEqual(kept(bridge, FAR, 0, 0), [(0, 3)])
        self.assertEqual(kept(bridge, FAR, 0, half), [(half - 3, half + 3)])
        self.assertEqual(kept(bridge, FAR, 0, FAR - 1), [(FAR - 7, FAR - 1)])
        window = Pipeline([("window", 0, 9, 6, 8), ("pad", 1, 3, 3)])
        out = sizes_at(window, FAR)[-1]
        self.assertEqual([kept(window, FAR, 0, cell) for cell in (2, 3, out - 4, out - 3)],
                         [[], [(0, 0)], [(6 * (out - 7) - 8, FAR - 1)], []])
        repeat = Pipeline([("repeat", 0, 6)])
        self.assertEqual(kept(repeat, FAR, 0, 6 * FAR - 1), [(FAR - 1, FAR - 1)])
        self.assertEqual(kept(repeat, FAR, 0, 3 * FAR - 1), [(half - 1, half - 1)])

    def test_moved_by_whole_rounds(self):
        """What is kept far on the right is what is kept near the right end of a small size, moved."""
        chance = random.Random(62)
        for steps, pipeline in steady_pipelines(chance, 100):
            size = next_fitting(pipeline, 400)
            near = sizes_at(pipeline, size)
            turns = ROUNDS * chance.randint(10 ** 28, 10 ** 29)
            far = sizes_at(pipeline, size + turns)
            row = chance.randint(0, len(steps))
            cell = chance.randrange(near[-1])
            # Sizes that are great enough are alike at both ends, but the cells between are those of one end alone.
            told = kept(pipeline, size, row, cell)
            if cell > near[-1] // 2:
                self.assertEqual(kept(pipeline, size + turns, row, cell + far[-1] - near[-1]),
                                 moved_ranges(told, far[row] - near[row]), (steps, size, row, cell))
            else:
                self.assertEqual(kept(pipeline, size + turns, row, cell), told, (steps, size, row, cell))

    def test_in_a_short_time(self):
        steps = [("window", 0, 9, 5, 2), ("repeat", 1, 5), ("pad", 0, 0, 30), ("crop", 3, 30, 0), ("join", 0, 4),
                 ("crop", 5, 0, 20), ("crop", 5, 20, 0), ("join", 6, 7)]
        pipeline = Pipeline(steps)
        began = time.process_time()
        for row in range(9):
            for _ in range(20):
                kept(pipeline, FAR, row, FAR // 3)
                steady_kept(pipeline, row)
        self.assertLess(time.process_time() - began, 10)


class SteadyTest(Case):

    def check_steady(self, steps, told):
        """told: the numbers of all rows."""
        with self.subTest(steps=steps):
            pipeline = Pipeline(steps)
            self.assertEqual([steady_kept(pipeline, row) for row in range(len(steps) + 1)], told)

    def test_each_word(self):
        self.check_steady([], [1])
        self.check_steady([("window", 0, 9, 1, 0)], [9, 1])
        self.check_steady([("window", 0, 9, 6, 0)], [9, 1])
        self.check_steady([("window", 0, 4, 4, 0)], [4, 1])
        self.check_steady([("repeat", 0, 6)], [1, 1])
        self.check_steady([("crop", 0, 30, 30)], [1, 1])
        self.check_steady([("pad", 0, 30, 30)], [1, 1])
        self.check_steady([("repeat", 0, 1), ("join", 1, 0)], [1, 1, 1])

    def test_pads_of_windows_keep_less_at_the_ends_alone(self):
        self.check_steady([("window", 0, 9, 1, 8)], [9, 1])
        self.check_steady([("window", 0, 9, 6, 4), ("window", 1, 5, 2, 4)], [33, 5, 1])

    def test_one_behind_the_other(self):
        self.check_steady(BEHIND, [5, 3, 1, 1])
        self.check_steady(APART, [21, 1, 1, 1])
        self.check_steady([("pad", 0, 5, 0), ("pad", 0, 0, 5), ("join", 1, 2)], [6, 1, 1, 1])
        self.check_steady([("window", 0, 3, 1, 0), ("crop", 0, 0, 2), ("join", 1, 2)], [3, 1, 1, 1])
        self.check_steady([("window", 0, 3, 1, 0), ("crop", 1, 6, 0), ("crop", 0, 0, 8), ("join", 3, 2)],
                          [9, 1, 1, 1, 1])

    def test_the_place_in_a_round_counts(self):
        # Outputs need row 1 at (j + 1) // 2 and row 0 at j: 2 cells for even j, 3 for odd ones.
        steps = [("window", 0, 2, 2, 0), ("repeat", 1, 2), ("crop", 2, 1, 0), ("crop", 0, 0, 1), ("join", 3, 4)]
        self.check_steady(steps, [3, 1, 1, 1, 1, 1])
        thirds = [("window", 0, 3, 3, 0), ("repeat", 1, 3), ("crop", 2, 2, 0), ("crop", 0, 0, 2), ("join", 3, 4)]
        self.check_steady(thirds, [5, 1, 1, 1, 1, 1])
        self.check_steady([("repeat", 0, 3), ("window", 1, 2, 1, 0)], [2, 2, 1])
        self.check_steady([("repeat", 0, 3), ("window", 1, 3, 3, 0)], [1, 3, 1])
        self.check_steady([("repeat", 0, 4), ("window", 1, 3, 3, 0), ("window", 2, 2, 2, 0)], [2, 6, 2, 1])
        self.check_steady([("repeat", 0, 4), ("window", 1, 3, 3, 0), ("window", 2, 3, 1, 0)], [3, 9, 3, 1])

    def test_rows_that_no_output_needs(self):
        self.check_steady([("window", 0, 5, 5, 2), ("repeat", 1, 2), ("repeat", 0, 2)], [1, 0, 0, 1])
        self.check_steady([("window", 0, 6, 5, 0), ("window", 1, 4, 4, 0), ("window", 2, 3, 3, 0), ("repeat", 0, 6),
                           ("repeat", 4, 4)], [1, 0, 0, 0, 1, 1])

    def greatest(self, pipeline, size, row):
        """The greatest number kept at once of all cells of a size, by kept."""
        return max(cells_in(kept(pipeline, size, row, cell)) for cell in range(sizes_at(pipeline, size)[-1]))

    def test_the_greatest_of_all_sizes_and_cells(self):
        for steps in (BRIDGE, BEHIND, [("window", 0, 5, 3, 2)], [("repeat", 0, 3), ("window", 1, 3, 2, 1)],
                      [("pad", 0, 5, 0), ("pad", 0, 0, 5), ("join", 1, 2)],
                      [("window", 0, 2, 2, 0), ("repeat", 1, 2), ("crop", 2, 1, 0), ("crop", 0, 0, 1), ("join", 3, 4)]):
            pipeline = Pipeline(steps)
            for row in range(len(steps) + 1):
                found = [self.greatest(pipeline, size, row) for size in range(1, 60) if plain_fits(steps, size)]
                self.assertEqual(max(found), steady_kept(pipeline, row), (steps, row))
                # It is reached for all sizes great enough, and not for small ones.
                self.assertEqual(found[-1], max(found))
                self.assertLess(found[0], max(found) + (row > 0))

    def test_compared_with_going_cell_by_cell(self):
        chance = random.Random(63)
        equal = 0
        for steps, pipeline in steady_pipelines(chance, 120):
            sizes = [size for size in range(1, 260) if plain_fits(steps, size) and max(plain_sizes(steps, size)) < 700]
            if not sizes:
                continue
            steady = [steady_kept(pipeline, row) for row in range(len(steps) + 1)]
            for size in {sizes[-1], chance.choice(sizes)}:
                table = plain_needs(steps, size)
                found = [max(len(cells) for cells in plain_kept(table, row)) for row in range(len(steps) + 1)]
                self.assertTrue(all(one <= most for one, most in zip(found, steady)), (steps, size, found, steady))
                equal += size == sizes[-1] and found == steady
        self.assertGreater(equal, 100)

    def test_reached_far_from_both_ends(self):
        chance = random.Random(64)
        for steps, pipeline in steady_pipelines(chance, 60):
            size = next_fitting(pipeline, FAR - chance.randint(0, 10 ** 30))
            middle = sizes_at(pipeline, size)[-1] // 2
            row = chance.randint(0, len(steps))
            found = [cells_in(kept(pipeline, size, row, middle + more)) for more in range(60)]
            self.assertEqual(max(found), steady_kept(pipeline, row), (steps, row))


class ErrorsTest(Case):

    def test_size_check_first(self):
        for steps in ([], BRIDGE, TWICE, NEVER):
            for size in (0, -1, -FAR):
                self.check_raises(InvalidNumber, size, kept, Pipeline(steps), size, 0, 0)
                self.check_raises(InvalidNumber, size, kept, Pipeline(steps), size, 99, -1)

    def test_fit_check_ahead_of_row_and_cell(self):
        for steps, size, fault in [(BRIDGE, 6, 4), (TWICE, 9, 3), (APART, 20, 1), (NEVER, 5, 2), (TWICE, FAR, 3)]:
            for row, cell in [(0, 0), (-1, 0), (9, 0), (0, -1), (0, FAR * 9), (-1, -1)]:
                self.check_raises(NotFitting, fault, kept, Pipeline(steps), size, row, cell)

    def test_row_check_ahead_of_the_cell(self):
        for steps, size in [([], 4), (BRIDGE, 8), (TWICE, 10), (APART, 40)]:
            out = plain_sizes(steps, size)[-1]
            for row in (-1, -2, len(steps) + 1, len(steps) + 5, FAR, -FAR):
                for cell in (0, -1, out, out - 1):
                    self.check_raises(InvalidRow, row, kept, Pipeline(steps), size, row, cell)

    def test_cells_are_those_of_the_output(self):
        for steps, size in [([], 4), (BRIDGE, 8), (TWICE, 10), (APART, 40), (APART, FAR),
                            ([("window", 0, 3, 3, 0)], 9), ([("repeat", 0, 3)], 2)]:
            out = plain_sizes(steps, size)[-1]
            for row in range(len(steps) + 1):
                for cell in (-1, -2, out, out + 1, FAR * 9, -FAR):
                    self.check_raises(InvalidCell, cell, kept, Pipeline(steps), size, row, cell)
                kept(Pipeline(steps), size, row, 0)
                kept(Pipeline(steps), size, row, out - 1)

    def test_steady_check_ahead_of_the_row(self):
        for steps in (TWICE, NEVER, [("repeat", 0, 2), ("join", 1, 0)],
                      [("window", 0, 2, 2, 0), ("repeat", 1, 2), ("pad", 0, 3, 3), ("join", 2, 3)]):
            for row in (0, len(steps), -1, len(steps) + 1):
                self.check_raises(NotSteady, None, steady_kept, Pipeline(steps), row)

    def test_row_check_of_steady_kept(self):
        for steps in ([], BRIDGE, APART):
            for row in (-1, -2, len(steps) + 1, FAR, -FAR):
                self.check_raises(InvalidRow, row, steady_kept, Pipeline(steps), row)
            steady_kept(Pipeline(steps), 0)
            steady_kept(Pipeline(steps), len(steps))


if __name__ == "__main__":
    unittest.main()

"""Tests of changes, of the least fix and of the pads for a size [2] [3] [5] [6] [7]."""

import random
import time
import unittest
from itertools import product

from fitsizes import fixes as module
from fitsizes.errors import InvalidNumber, InvalidPlaces
from fitsizes.fitting import fitting_sizes
from fitsizes.fixes import least_fix, pads_for, with_changes
from fitsizes.pipelines import Pipeline
from tests.cases import Case
from tests.plain import (APART, BRIDGE, TWICE, in_form, levelled_steps, plain_fits, random_steps, round_steps,
                         spread_steps, two_round_steps)

FAR = 10 ** 33

CROPS = [("crop", 0, 1, 1), ("crop", 0, 0, 1), ("join", 1, 2)]
PADS = [("window", 0, 3, 2, 1), ("repeat", 1, 2), ("pad", 0, 0, 0), ("join", 2, 3)]
EVEN = [("pad", 0, 0, 0), ("window", 1, 2, 2, 0), ("repeat", 2, 2), ("join", 1, 3)]
# A crop and a pad among steps of all other words.
MIXED = [("crop", 0, 2, 3), ("window", 1, 3, 1, 1), ("repeat", 2, 1), ("pad", 1, 0, 4), ("join", 1, 3)]


def plain_changed(steps, places, changes):
    """The steps with the right numbers changed, straight from the document."""
    made = list(steps)
    for place, change in zip(places, changes):
        made[place] = made[place][:3] + (made[place][3] + change,)
    return made


def plain_fix(steps, places):
    """The least fix, by trying all changes, ordered as the document says."""
    found = []
    for changes in product(range(-3, 4), repeat=len(places)):
        made = plain_changed(steps, places, changes)
        if min(made[place][3] for place in places) < 0:
            continue
        form = fitting_sizes(Pipeline(made))
        if form[0] == "classes" and form[2:] == (1, [0]):
            found.append((sum(abs(change) for change in changes), changes))
    return min(found)[1] if found else None


def ends_of(steps):
    return [place for place in range(len(steps)) if steps[place][0] in ("crop", "pad")]


def some_steps(chance, turn):
    """Steps with a crop or a pad at least."""
    while True:
        steps = [random_steps, spread_steps, lambda c: levelled_steps(c)[0],
                 lambda c: round_steps(c, c.randint(1, 60)),
                 lambda c: two_round_steps(c, c.randint(1, 60))][turn % 5](chance)
        if ends_of(steps):
            return steps


class InterfaceTest(Case):

    def test_names_and_arguments(self):
        self.check_functions(module, {"with_changes": ["pipeline", "places", "changes"],
                                      "least_fix": ["pipeline", "places"], "pads_for": ["pipeline", "place", "size"]})

    def test_example_of_the_document(self):
        crops, pads, even = Pipeline(CROPS), Pipeline(PADS), Pipeline(EVEN)
        self.assertEqual([least_fix(crops, [0, 1]), with_changes(crops, [0], (-1,)).steps[0], least_fix(even, [0]),
                          pads_for(pads, 2, 7), pads_for(even, 0, 7)],
                         [(-1, 0), ("crop", 0, 1, 0), None, ("some", [1]), ("classes", 1, 2, [1])])

    def test_arguments_by_name(self):
        crops = Pipeline(CROPS)
        self.assertEqual(with_changes(changes=(2, 3), places=[0, 1], pipeline=crops).steps,
                         [("crop", 0, 1, 3), ("crop", 0, 0, 4), ("join", 1, 2)])
        self.assertEqual(least_fix(places=[0, 1], pipeline=crops), (-1, 0))
        self.assertEqual(pads_for(size=7, place=2, pipeline=Pipeline(PADS)), ("some", [1]))
        self.check_raises(InvalidNumber, -2, with_changes, changes=(-2, 0), places=[0, 1], pipeline=crops)
        self.check_raises(InvalidPlaces, [2], least_fix, places=[2], pipeline=crops)
        self.check_raises(InvalidPlaces, 0, pads_for, size=7, place=0, pipeline=crops)
        self.check_raises(InvalidNumber, 0, pads_for, size=0, place=2, pipeline=Pipeline(PADS))

    def test_no_argument_is_changed_and_returned_lists_are_new(self):
        told, places = list(CROPS), [0, 1]
        pipeline = Pipeline(told)
        told[:] = [("crop", 0, 9, 9)]
        made = with_changes(pipeline, places, (1, 2))
        self.assertIs(type(made), Pipeline)
        least_fix(pipeline, places)
        self.assertEqual((pipeline.steps, places), (CROPS, [0, 1]))
        places.append(7)
        self.assertEqual(made.steps, [("crop", 0, 1, 2), ("crop", 0, 0, 3), ("join", 1, 2)])
        self.assertIsNot(with_changes(pipeline, [0], (0,)), pipeline)
        for steps, place, form in [(PADS, 2, ("some", [1])), (EVEN, 0, ("classes", 1, 2, [1]))]:
            pipeline = Pipeline(steps)
            first = pads_for(pipeline, place, 7)
            self.assertEqual((type(first), type(first[-1])), (tuple, list))
            first[-1].append(9)
            self.assertEqual(pads_for(pipeline, place, 7), form)
            self.assertEqual(pipeline.steps, steps)
        self.assertEqual(least_fix(Pipeline(CROPS), [0, 1]), (-1, 0))


class ChangesTest(Case):

    def check_changes(self, steps, places, changes, made):
        """made: the steps at the places; the others stay as they are."""
        with self.subTest(steps=steps, places=places, changes=changes):
            told = list(steps)
            for place, step in zip(places, made):
                told[place] = step
            self.assertEqual(with_changes(Pipeline(steps), places, changes).steps, told)

    def test_one_and_two_places(self):
        self.check_changes(MIXED, [0], (2,), [("crop", 0, 2, 5)])
        self.check_changes(MIXED, [0], (-2,), [("crop", 0, 2, 1)])
        self.check_changes(MIXED, [0], (-3,), [("crop", 0, 2, 0)])
        self.check_changes(MIXED, [0], (0,), [("crop", 0, 2, 3)])
        self.check_changes(MIXED, [3], (26,), [("pad", 1, 0, 30)])
        self.check_changes(MIXED, [3], (-4,), [("pad", 1, 0, 0)])
        self.check_changes(MIXED, [0, 3], (-1, 1), [("crop", 0, 2, 2), ("pad", 1, 0, 5)])
        self.check_changes(MIXED, [0, 3], (-3, -4), [("crop", 0, 2, 0), ("pad", 1, 0, 0)])
        self.check_changes(MIXED, [0, 3], (FAR, FAR - 4), [("crop", 0, 2, FAR + 3), ("pad", 1, 0, FAR)])

    def test_the_form_is_that_of_a_pipeline_made_so(self):
        chance = random.Random(81)
        for turn in range(60):
            steps = some_steps(chance, turn)
            ends = ends_of(steps)
            places = sorted(chance.sample(ends, min(len(ends), chance.randint(1, 2))))
            changes = tuple(chance.randint(-steps[place][3], 9) for place in places)
            made = with_changes(Pipeline(steps), places, changes)
            self.assertEqual(made, Pipeline(plain_changed(steps, places, changes)))
            self.assertEqual(fitting_sizes(made), fitting_sizes(Pipeline(plain_changed(steps, places, changes))))
            back = with_changes(made, places, tuple(-change for change in changes))
            self.assertEqual(back, Pipeline(steps))
            self.assertEqual(fitting_sizes(back), fitting_sizes(Pipeline(steps)))

    def test_numbers_that_would_be_negative(self):
        for places, changes, value in [([0], (-4,), -4), ([0], (-FAR,), -FAR), ([3], (-5,), -5),
                                       ([0, 3], (-4, -5), -4), ([0, 3], (-3, -5), -5), ([0, 3], (9, -6), -6),
                                       ([0, 3], (-7, 1), -7)]:
            pipeline = Pipeline(MIXED)
            self.check_raises(InvalidNumber, value, with_changes, pipeline, places, changes)
            self.assertEqual(pipeline.steps, MIXED)


class FixTest(Case):

    def check_fix(self, steps, places, changes):
        with self.subTest(steps=steps, places=places):
            told = least_fix(Pipeline(steps), places)
            self.assertEqual(told, changes)
            self.assertEqual(told, plain_fix(steps, places))
            self.assertIs(type(told), type(changes))

    def test_nothing_to_change(self):
        self.check_fix(APART, [0], (0,))
        self.check_fix(APART, [0, 1], (0, 0))
        self.check_fix([("crop", 0, 3, 0)], [0], (0,))
        self.check_fix([("pad", 0, 3, 0)], [0], (0,))

    def test_one_place(self):
        self.check_fix(CROPS, [0], (-1,))
        self.check_fix(CROPS, [1], (1,))
        behind = [("crop", 0, 4, 0), ("pad", 0, 0, 1), ("crop", 2, 2, 0), ("join", 1, 3)]
        self.check_fix(behind, [0], None)
        self.check_fix(behind, [1], None)
        self.check_fix(behind, [2], (3,))
        self.check_fix(behind, [1, 2], (-1, 2))
        self.check_fix([("crop", 0, 4, 0), ("crop", 0, 1, 1), ("join", 1, 2)], [1], (2,))
        self.check_fix([("crop", 0, 4, 0), ("crop", 0, 1, 0), ("join", 1, 2)], [1], (3,))
        self.check_fix([("crop", 0, 5, 0), ("crop", 0, 1, 0), ("join", 1, 2)], [1], None)
        self.check_fix([("pad", 0, 0, 3), ("pad", 0, 0, 0), ("join", 1, 2)], [0], (-3,))
        self.check_fix([("pad", 0, 0, 4), ("pad", 0, 0, 0), ("join", 1, 2)], [0], None)

    def test_the_first_of_equal_sums(self):
        # One less at the one or one more at the other, and two by one each.
        self.check_fix(CROPS, [0, 1], (-1, 0))
        self.check_fix([("crop", 0, 0, 1), ("crop", 0, 1, 1), ("join", 1, 2)], [0, 1], (0, -1))
        self.check_fix([("crop", 0, 3, 1), ("crop", 0, 1, 1), ("join", 1, 2)], [0, 1], (-1, 1))
        self.check_fix([("crop", 0, 4, 3), ("crop", 0, 1, 1), ("join", 1, 2)], [0, 1], (-3, 2))
        self.check_fix([("crop", 0, 7, 3), ("crop", 0, 1, 3), ("join", 1, 2)], [0, 1], (-3, 3))
        self.check_fix([("crop", 0, 8, 3), ("crop", 0, 1, 3), ("join", 1, 2)], [0, 1], None)

    def test_numbers_that_would_be_negative_are_left_out(self):
        self.check_fix([("crop", 0, 2, 0), ("crop", 0, 1, 0), ("join", 1, 2)], [0, 1], (0, 1))
        self.check_fix([("crop", 0, 2, 0), ("crop", 0, 1, 0), ("join", 1, 2)], [0], None)
        self.check_fix([("crop", 0, 3, 1), ("crop", 0, 0, 0), ("join", 1, 2)], [0, 1], (-1, 3))
        self.check_fix([("crop", 0, 3, 2), ("crop", 0, 0, 0), ("join", 1, 2)], [0, 1], (-2, 3))
        self.check_fix([("pad", 0, 3, 2), ("pad", 0, 0, 0), ("join", 1, 2)], [0], None)
        self.check_fix([("pad", 0, 1, 2), ("pad", 0, 0, 0), ("join", 1, 2)], [0, 1], (-2, 1))

    def test_other_forms_are_no_fix(self):
        # A period of 2, periods with several residues, a list.
        self.check_fix(EVEN, [0], None)
        both = [("pad", 0, 0, 0), ("window", 1, 2, 2, 0), ("repeat", 2, 2), ("window", 1, 3, 3, 0), ("repeat", 4, 3),
                ("join", 3, 5)]
        self.assertEqual(fitting_sizes(Pipeline(both)), ("classes", 6, 6, [0, 1]))
        self.check_fix(both, [0], None)
        self.check_fix(TWICE, [1], None)
        self.check_fix([("crop", 0, 0, 1), ("repeat", 1, 2), ("join", 1, 2)], [0], None)

    def test_places_behind_windows_and_repetitions(self):
        # n // 2 and (2 * (n // 2) + x) // 2.
        halves = [("window", 0, 2, 2, 0), ("repeat", 1, 2), ("pad", 2, 0, 2), ("window", 3, 2, 2, 0), ("join", 4, 1)]
        self.check_fix(halves, [2], (-1,))
        self.check_fix(halves[:2] + [("pad", 2, 0, 1)] + halves[3:], [2], (0,))
        # (n - x) // 4 + y and n // 4.
        fourths = [("window", 1, 4, 4, 0), ("pad", 2, 0, 0), ("window", 0, 4, 4, 0), ("join", 3, 4)]
        for number, changes in [(0, (0, 0)), (1, (-1, 0)), (2, (-2, 0)), (3, (1, 1)), (6, (-2, 1)), (8, (0, 2))]:
            self.check_fix([("crop", 0, 0, number)] + fourths, [0, 2], changes)
        self.check_fix([("crop", 0, 0, 3)] + fourths, [0], (-3,))
        self.check_fix([("crop", 0, 0, 3)] + fourths, [2], None)

    def test_compared_with_trying_all_changes(self):
        chance = random.Random(82)
        seen = set()
        for turn in range(120):
            steps = some_steps(chance, turn)
            ends = ends_of(steps)
            if turn % 2:
                # A little off what fits all sizes.
                place = chance.choice(ends)
                steps = plain_changed(steps, [place], (chance.randint(-min(steps[place][3], 3), 3),))
            places = sorted(chance.sample(ends, min(len(ends), chance.randint(1, 2))))
            told = least_fix(Pipeline(steps), places)
            self.assertEqual(told, plain_fix(steps, places), (steps, places))
            seen.add((len(places), told is None, told is not None and any(told)))
        self.assertEqual(seen, {(1, True, False), (1, False, False), (1, False, True), (2, True, False),
                                (2, False, False), (2, False, True)})

    def test_in_a_short_time(self):
        steps = [("window", 0, 6, 5, 2), ("window", 1, 4, 3, 1), ("window", 2, 4, 4, 1), ("repeat", 3, 6),
                 ("pad", 4, 0, 4), ("crop", 5, 1, 3), ("join", 0, 6)]
        began = time.process_time()
        for _ in range(3):
            least_fix(Pipeline(steps), [4, 5])
        self.assertLess(time.process_time() - began, 10)


class PadsTest(Case):

    def check_shape(self, form):
        """The form is one of the two of [7], each in its least words, of integers from 0 on."""
        if form[0] == "some":
            self.assertEqual((len(form), form[1]), (2, sorted(set(form[1]))))
            self.assertTrue(all(number >= 0 for number in form[1]))
            return
        word, least, period, residues = form
        self.assertEqual((word, residues), ("classes", sorted(set(residues))))
        self.assertTrue(least >= 0 and 0 <= residues[0] and residues[-1] < period)
        self.assertIn(least % period, residues)
        for lesser in range(1, period):
            marks = [number % period in residues for number in range(2 * period)]
            self.assertTrue(any(marks[n] != marks[n + lesser] for n in range(period)), (form, lesser))

    def check_pads(self, steps, place, size, form=None):
        told = pads_for(Pipeline(steps), place, size)
        if form is not None:
            self.assertEqual(told, form, (steps, place, size))
        self.check_shape(told)
        for number in list(range(130)) + [FAR - more for more in range(70)]:
            made = list(steps)
            made[place] = steps[place][:3] + (number,)
            self.assertEqual(in_form(told, number), plain_fits(made, size), (steps, place, size, number, told))
        if told[0] == "classes":
            self.assertTrue(in_form(told, told[1]))
        return told

    def test_all_from_the_least_on(self):
        self.check_pads([("pad", 0, 3, 9)], 0, 5, ("classes", 0, 1, [0]))
        self.check_pads([("pad", 0, 0, 0)], 0, 1, ("classes", 0, 1, [0]))
        self.check_pads([("pad", 0, 2, 0), ("crop", 1, 9, 0)], 0, 5, ("classes", 3, 1, [0]))
        self.check_pads([("pad", 0, 2, 0), ("crop", 1, 7, 0)], 0, 5, ("classes", 1, 1, [0]))
        self.check_pads([("pad", 0, 2, 0), ("crop", 1, 6, 0)], 0, 5, ("classes", 0, 1, [0]))
        self.check_pads([("pad", 0, 2, 0), ("window", 1, 9, 6, 0)], 0, 5, ("classes", 2, 1, [0]))
        self.check_pads([("pad", 0, 0, 0), ("window", 1, 9, 6, 2), ("crop", 2, 3, 0)], 0, 5, ("classes", 18, 1, [0]))
        self.check_pads([("pad", 0, 0, 0), ("repeat", 1, 6), ("crop", 2, 30, 20)], 0, 5, ("classes", 4, 1, [0]))

    def test_classes(self):
        self.check_pads(EVEN, 0, 7, ("classes", 1, 2, [1]))
        self.check_pads(EVEN, 0, 8, ("classes", 0, 2, [0]))
        self.check_pads(EVEN, 0, 1, ("classes", 1, 2, [1]))
        both = [("pad", 0, 0, 0), ("window", 1, 2, 2, 0), ("repeat", 2, 2), ("window", 1, 3, 3, 0), ("repeat", 4, 3),
                ("join", 3, 5)]
        self.check_pads(both, 0, 7, ("classes", 0, 6, [0, 5]))
        self.check_pads(both, 0, 2, ("classes", 4, 6, [4, 5]))
        self.check_pads([("pad", 0, 0, 0), ("window", 1, 5, 5, 0), ("repeat", 2, 5), ("join", 3, 1)], 0, 12,
                        ("classes", 3, 5, [3]))

    def test_lists(self):
        self.check_pads(PADS, 2, 7, ("some", [1]))
        self.check_pads(PADS, 2, 8, ("some", [0]))
        self.check_pads([("pad", 0, 3, 0), ("join", 1, 0)], 0, 8, ("some", []))
        self.check_pads([("pad", 0, 0, 9), ("join", 1, 0)], 0, 8, ("some", [0]))
        self.check_pads([("pad", 0, 0, 0), ("window", 1, 4, 4, 0), ("join", 2, 0)], 0, 3, ("some", [9, 10, 11, 12]))
        self.check_pads([("pad", 0, 0, 0), ("window", 1, 4, 4, 0), ("crop", 0, 2, 0), ("join", 2, 3)], 0, 3,
                        ("some", [1, 2, 3, 4]))
        self.check_pads([("pad", 0, 0, 0), ("window", 1, 4, 4, 0), ("crop", 0, 4, 0), ("join", 2, 3)], 0, 8,
                        ("some", [8, 9, 10, 11]))
        self.check_pads([("pad", 0, 2, 0), ("repeat", 1, 3), ("repeat", 0, 6), ("join", 2, 3)], 0, 5, ("some", [3]))
        self.check_pads([("pad", 0, 2, 0), ("repeat", 1, 3), ("repeat", 0, 5), ("join", 2, 3)], 0, 5, ("some", []))
        # Both joined rows rise, but not by as much: 10 + x == 2 * (5 + x) - 7 and the other way round.
        both = [("pad", 0, 0, 0), ("repeat", 1, 2), ("crop", 2, 7, 0), ("pad", 1, 5, 0)]
        self.check_pads(both + [("join", 3, 4)], 0, 5, ("some", [7]))
        self.check_pads(both + [("join", 4, 3)], 0, 5, ("some", [7]))
        self.check_pads(both + [("join", 4, 3), ("join", 5, 0)], 0, 5, ("some", []))
        self.check_pads(both + [("join", 4, 3), ("pad", 0, 12, 0), ("join", 5, 6)], 0, 5, ("some", [7]))

    def test_one_of_several_pads(self):
        steps = [("pad", 0, 1, 2), ("pad", 1, 0, 0), ("pad", 0, 4, 5), ("join", 2, 3)]
        self.check_pads(steps, 0, 6, ("some", [8]))
        self.check_pads(steps, 1, 6, ("some", [6]))
        self.check_pads(steps, 2, 6, ("some", []))
        self.check_pads([("pad", 0, 1, 9), ("pad", 1, 0, 0), ("pad", 0, 4, 5), ("join", 2, 3)], 2, 6, ("some", [6]))

    def test_rows_that_the_pad_does_not_change(self):
        # What does not fit whatever the pad is, ahead of it and beside it.
        self.check_pads([("crop", 0, 5, 0), ("pad", 0, 0, 0)], 1, 5, ("some", []))
        self.check_pads([("crop", 0, 5, 0), ("pad", 0, 0, 0)], 1, 6, ("classes", 0, 1, [0]))
        self.check_pads([("pad", 0, 0, 0), ("crop", 0, 5, 0)], 0, 4, ("some", []))
        self.check_pads([("repeat", 0, 2), ("join", 0, 1), ("pad", 0, 0, 0)], 2, 5, ("some", []))
        self.check_pads([("repeat", 0, 1), ("join", 0, 1), ("pad", 0, 0, 0)], 2, 5, ("classes", 0, 1, [0]))
        self.check_pads([("crop", 0, 5, 0), ("pad", 1, 9, 0)], 1, 5, ("some", []))
        # The right size of the joined row is below 1.
        self.check_pads([("crop", 0, 5, 0), ("crop", 0, 6, 0), ("pad", 2, 0, 0), ("join", 1, 3)], 2, 6, ("some", []))
        self.check_pads([("crop", 0, 5, 0), ("crop", 0, 6, 0), ("pad", 2, 0, 0), ("join", 1, 3)], 2, 7, ("some", [1]))
        # A row that is crossed at 0 alone, where it has no cells.
        self.check_pads([("pad", 0, 0, 0), ("crop", 1, 4, 0), ("repeat", 2, 2), ("join", 2, 3)], 0, 2, ("some", []))

    def test_far_sizes(self):
        self.check_pads(EVEN, 0, FAR, ("classes", 0, 2, [0]))
        self.check_pads(EVEN, 0, FAR + 1, ("classes", 1, 2, [1]))
        self.check_pads(PADS, 2, FAR - 1, ("some", [1]))
        self.check_pads([("pad", 0, 0, 0), ("repeat", 0, 2), ("join", 1, 2)], 0, FAR, ("some", [FAR]))
        self.check_pads([("pad", 0, 0, 0), ("window", 1, 3, 3, 0), ("join", 2, 0)], 0, FAR,
                        ("some", [2 * FAR, 2 * FAR + 1, 2 * FAR + 2]))
        self.check_pads([("window", 0, 6, 6, 0), ("pad", 1, 0, 0), ("repeat", 2, 4), ("window", 3, 3, 3, 0),
                         ("join", 4, 0)], 1, 12 * FAR, ("some", [7 * FAR]))
        self.check_pads([("pad", 0, 0, 0), ("repeat", 1, 2), ("pad", 1, FAR, 0), ("join", 2, 3)], 0, 5,
                        ("some", [FAR - 5]))

    def test_compared_with_trying_many_numbers(self):
        chance = random.Random(83)
        seen = set()
        behind = set()
        tried = 0
        while tried < 400:
            steps = some_steps(chance, tried)
            if chance.randint(0, 1):
                # A pad ahead of all, with what comes behind it moved.
                later = Pipeline([("pad", 0, chance.randint(0, 5), 0)]).followed_by(Pipeline(steps))
                steps = later.steps[:8]
            places = [place for place in range(len(steps)) if steps[place][0] == "pad"]
            if not places:
                tried += 1
                continue
            tried += 1
            place = chance.choice(places)
            size = chance.choice([chance.randint(1, 12), chance.randint(1, 90), FAR - chance.randint(0, 99)])
            form = self.check_pads(steps, place, size)
            seen.add((form[0], min(len(form[-1]), 2), form[0] == "classes" and form[2] > 1))
            if form[-1]:
                behind |= {step[0] for step in steps if step[1] == place + 1 or step[2] == place + 1}
        for kind in [("some", 0, False), ("some", 1, False), ("some", 2, False), ("classes", 1, False),
                     ("classes", 1, True), ("classes", 2, True)]:
            self.assertIn(kind, seen)
        self.assertEqual(behind, {"window", "repeat", "crop", "pad", "join"})

    def test_in_a_short_time(self):
        steps = [("pad", 0, 0, 0), ("window", 1, 6, 5, 2), ("window", 2, 4, 3, 1), ("window", 3, 4, 4, 1),
                 ("repeat", 4, 6), ("repeat", 5, 4), ("join", 0, 6)]
        began = time.process_time()
        for size in range(FAR, FAR + 30):
            pads_for(Pipeline(steps), 0, size)
        self.assertLess(time.process_time() - began, 10)


class PlacesTest(Case):

    def test_places_check(self):
        for places in ([], [0, 3, 3], [0, 0, 3], [0, 3, 5], [0, 0], [3, 3], [3, 0], [-1], [-5], [-2, 0], [-5, -2],
                       [0, -2], [5], [9], [0, 5], [0, 9], [1], [2], [4], [0, 1], [1, 3], [2, 3], [3, 4], [0, 4], [FAR],
                       [-FAR], [-5, 3], [1, 0]):
            pipeline = Pipeline(MIXED)
            self.check_raises(InvalidPlaces, places, least_fix, pipeline, places)
            for change in (0, -9, 5):
                self.check_raises(InvalidPlaces, places, with_changes, pipeline, places, (change,) * len(places))
            self.assertEqual(pipeline.steps, MIXED)
        for places in ([0], [3], [0, 3]):
            least_fix(Pipeline(MIXED), places)
            with_changes(Pipeline(MIXED), places, (0,) * len(places))

    def test_pipelines_without_crops_and_pads(self):
        for steps in ([], BRIDGE, [("repeat", 0, 2)]):
            for places in ([], [0], [-1], [0, 1], [len(steps)]):
                self.check_raises(InvalidPlaces, places, least_fix, Pipeline(steps), places)
                self.check_raises(InvalidPlaces, places, with_changes, Pipeline(steps), places, (0,) * len(places))

    def test_no_pad_at_the_place_ahead_of_the_size(self):
        for steps in (MIXED, TWICE, APART, BRIDGE, []):
            pads = [place for place in range(len(steps)) if steps[place][0] == "pad"]
            for place in [-1, -2, -len(steps), len(steps), len(steps) + 1, FAR, -FAR] + list(range(len(steps))):
                for size in (7, 1, 0, -1, -FAR):
                    if place not in pads:
                        self.check_raises(InvalidPlaces, place, pads_for, Pipeline(steps), place, size)

    def test_size_check(self):
        for steps, place in [(MIXED, 3), (PADS, 2), (EVEN, 0), ([("pad", 0, 0, 0)], 0)]:
            for size in (0, -1, -FAR):
                self.check_raises(InvalidNumber, size, pads_for, Pipeline(steps), place, size)
            for size in (1, FAR):
                pads_for(Pipeline(steps), place, size)


if __name__ == "__main__":
    unittest.main()

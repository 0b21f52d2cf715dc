"""Tests of pipelines [2] [3] [5]."""

import unittest

from fitsizes.errors import InvalidPipeline
from fitsizes.pipelines import Pipeline

FAR = 10 ** 33

BRIDGE = [("window", 0, 3, 2, 1), ("window", 1, 3, 2, 1), ("repeat", 2, 4), ("join", 3, 0)]
APART = [("crop", 0, 0, 20), ("crop", 0, 20, 0), ("join", 1, 2)]
ALL_WORDS = [("window", 0, 3, 2, 1), ("repeat", 1, 2), ("crop", 1, 0, 3), ("pad", 0, 4, 0), ("join", 2, 4)]


class PipelineTest(unittest.TestCase):

    def test_interface_stands_in_the_class(self):
        self.assertEqual(Pipeline.__module__, "fitsizes.pipelines")
        for name in ["steps", "__len__", "__eq__", "followed_by"]:
            with self.subTest(name=name):
                self.assertIn(name, vars(Pipeline))
        self.assertIsInstance(vars(Pipeline)["steps"], property)

    def test_steps_and_len(self):
        for steps in ([], [("repeat", 0, 1)], BRIDGE, APART, ALL_WORDS, [("repeat", 0, 2)] * 8):
            with self.subTest(steps=steps):
                pipeline = Pipeline(steps)
                self.assertEqual(pipeline.steps, steps)
                self.assertIs(type(pipeline.steps), list)
                self.assertEqual(len(pipeline), len(steps))

    def test_equal_if_the_steps_are(self):
        lists = [[], [("repeat", 0, 1)], [("repeat", 0, 2)], [("pad", 0, 1, 0)], [("crop", 0, 1, 0)],
                 [("pad", 0, 0, 1)], [("repeat", 0, 1)] * 2, [("repeat", 0, 1), ("repeat", 1, 1)], BRIDGE, BRIDGE[:3]]
        for at, one in enumerate(lists):
            for by, other in enumerate(lists):
                with self.subTest(one=one, other=other):
                    self.assertIs(Pipeline(list(one)) == Pipeline(list(other)), at == by)
                    self.assertIs(Pipeline(list(one)) != Pipeline(list(other)), at != by)

    def test_equal_to_nothing_else(self):
        for steps in ([], BRIDGE):
            for other in [list(steps), tuple(steps), None, 0, len(steps), "pipeline", {}]:
                with self.subTest(steps=steps, other=other):
                    self.assertIs(Pipeline(steps) == other, False)
                    self.assertIs(other == Pipeline(steps), False)
                    self.assertIs(Pipeline(steps) != other, True)

    def test_told_steps_are_neither_changed_nor_kept(self):
        told = list(BRIDGE)
        pipeline = Pipeline(told)
        self.assertEqual(told, BRIDGE)
        told[0] = ("repeat", 0, 1)
        told.append(("nothing",))
        self.assertEqual(pipeline.steps, BRIDGE)
        self.assertEqual(len(pipeline), 4)

    def test_the_steps_that_are_returned_are_new(self):
        pipeline = Pipeline(BRIDGE)
        given = pipeline.steps
        given[0] = ("repeat", 0, 1)
        given.append(("nothing",))
        self.assertIsNot(pipeline.steps, pipeline.steps)
        self.assertEqual(pipeline.steps, BRIDGE)
        self.assertEqual(pipeline, Pipeline(BRIDGE))

    def test_arguments_by_name(self):
        self.assertEqual(Pipeline(steps=BRIDGE), Pipeline(BRIDGE))
        self.assertEqual(Pipeline([]).followed_by(other=Pipeline(BRIDGE)), Pipeline(BRIDGE))


class FollowedTest(unittest.TestCase):

    def test_rows_are_counted_on(self):
        both = Pipeline(APART).followed_by(Pipeline(ALL_WORDS))
        self.assertEqual(both.steps, APART + [("window", 3, 3, 2, 1), ("repeat", 4, 2), ("crop", 4, 0, 3),
                                              ("pad", 3, 4, 0), ("join", 5, 7)])
        self.assertEqual(len(both), 8)

    def test_joins_of_the_first_row(self):
        both = Pipeline(ALL_WORDS[:2]).followed_by(Pipeline([("crop", 0, 1, 2), ("join", 1, 0), ("join", 0, 2)]))
        self.assertEqual(both.steps, ALL_WORDS[:2] + [("crop", 2, 1, 2), ("join", 3, 2), ("join", 2, 4)])

    def test_without_steps(self):
        self.assertEqual(Pipeline([]).followed_by(Pipeline(BRIDGE)).steps, BRIDGE)
        self.assertEqual(Pipeline(BRIDGE).followed_by(Pipeline([])).steps, BRIDGE)
        self.assertEqual(Pipeline([]).followed_by(Pipeline([])).steps, [])

    def test_of_itself(self):
        bridge = Pipeline(BRIDGE)
        self.assertEqual(bridge.followed_by(bridge).steps,
                         BRIDGE + [("window", 4, 3, 2, 1), ("window", 5, 3, 2, 1), ("repeat", 6, 4), ("join", 7, 4)])

    def test_returns_a_new_pipeline_and_changes_neither(self):
        first, second = Pipeline(APART), Pipeline(BRIDGE)
        both = first.followed_by(second)
        self.assertIs(type(both), Pipeline)
        both.steps.append(("nothing",))
        self.assertEqual((first.steps, second.steps, len(both)), (APART, BRIDGE, 7))
        self.assertIsNot(first.followed_by(Pipeline([])), first)


class CheckTest(unittest.TestCase):

    def check_raises(self, number, steps):
        told = list(steps)
        with self.subTest(steps=steps):
            with self.assertRaises(InvalidPipeline) as caught:
                Pipeline(steps)
            self.assertIs(type(caught.exception), InvalidPipeline)
            self.assertEqual(caught.exception.value, number)
            with self.assertRaises(InvalidPipeline):
                Pipeline(steps=steps)
            self.assertEqual(steps, told)

    def check_step(self, step):
        """The step is wrong alone, behind other steps, and before others that are wrong, too."""
        self.check_raises(0, [step])
        self.check_raises(2, [("repeat", 0, 1), ("repeat", 0, 1), step])
        self.check_raises(2, [("repeat", 0, 1), ("repeat", 0, 1), step, ("repeat", 0, 0), step, ("repeat", 0, 1)])

    def check_right(self, steps):
        with self.subTest(steps=steps):
            self.assertEqual(Pipeline(steps).steps, steps)

    def test_another_number_of_items(self):
        for step in ALL_WORDS[:4]:
            step = (step[0], 0) + step[2:]
            self.check_right([step])
            self.check_step(step[:-1])
            self.check_step(step + (0,))
            self.check_step(step + (1,))
            self.check_step(step[:1])
        behind = [("repeat", 0, 1), ("repeat", 0, 1)]
        self.check_right(behind + [("join", 0, 1)])
        for step in [("join",), ("join", 0), ("join", 0, 1, 2), ("join", 0, 1, 0)]:
            self.check_raises(2, behind + [step])
        self.check_step(())

    def test_another_word(self):
        for word in ["", "windows", "Window", " crop", "pads", "JOIN", "row", "rep"]:
            self.check_step((word,))
            for many in (1, 2, 3, 4, 5):
                self.check_step((word, 0) + (1,) * many)

    def test_another_word_s_numbers(self):
        self.check_step(("repeat", 0, 1, 1))
        self.check_step(("crop", 0, 1))
        self.check_step(("pad", 0, 3, 2, 1))
        self.check_step(("window", 0, 1, 1))

    def test_rows_that_are_not_there(self):
        for step in ALL_WORDS[:4]:
            for row in (1, 2, 8, FAR):
                self.check_raises(0, [(step[0], row) + step[2:]])
            for row in (3, 4, FAR):
                self.check_raises(2, [("repeat", 0, 1)] * 2 + [(step[0], row) + step[2:]])
            for row in (-1, -2, -FAR):
                self.check_step((step[0], row) + step[2:])
            for row in (0, 1, 2):
                self.check_right([("repeat", 0, 1)] * 2 + [(step[0], row) + step[2:]])

    def test_rows_of_joins(self):
        behind = [("repeat", 0, 1)] * 2
        for rows in [(0, 1), (1, 0), (0, 2), (2, 0), (1, 2), (2, 1)]:
            self.check_right(behind + [("join",) + rows])
        for rows in [(0, 0), (1, 1), (2, 2), (0, 3), (3, 0), (3, 3), (-1, 0), (0, -1), (-1, -1), (-1, -2), (3, 4),
                     (2, FAR), (FAR, 2), (-FAR, 1), (-1, 3), (3, -1)]:
            self.check_raises(2, behind + [("join",) + rows])
        self.check_raises(0, [("join", 0, 1)])
        self.check_raises(0, [("join", 1, 0)])
        self.check_raises(0, [("join", 0, 0)])

    def test_windows(self):
        for numbers in [(1, 1, 0), (3, 1, 0), (3, 3, 0), (3, 1, 2), (3, 3, 2), (9, 9, 8), (9, 6, 0), (2, 2, 1),
                        (FAR, FAR, FAR - 1)]:
            self.check_right([("window", 0) + numbers])
        for numbers in [(3, 0, 0), (3, 4, 0), (3, -1, 0), (1, 2, 0), (3, 1, -1), (3, 1, 3), (3, 3, 4), (1, 1, 1),
                        (0, 0, 0), (0, 1, 0), (0, 0, -1), (-1, -1, 0), (-1, 1, 0), (-3, -3, -4), (FAR, FAR + 1, 0),
                        (FAR, 1, FAR)]:
            self.check_step(("window", 0) + numbers)

    def test_repetitions(self):
        for times in (1, 2, 6, FAR):
            self.check_right([("repeat", 0, times)])
        for times in (0, -1, -FAR):
            self.check_step(("repeat", 0, times))

    def test_crops_and_pads(self):
        for word in ("crop", "pad"):
            for numbers in [(0, 0), (0, 1), (1, 0), (30, 30), (FAR, 0), (0, FAR)]:
                self.check_right([(word, 0) + numbers])
            for numbers in [(-1, 0), (0, -1), (-1, -1), (5, -1), (-1, 5), (-FAR, FAR), (FAR, -FAR)]:
                self.check_step((word, 0) + numbers)

    def test_the_first_wrong_step_of_several(self):
        self.check_raises(1, [("repeat", 0, 1), ("repeat", 1, 0), ("repeat", 9, 1), ("other", 0)])
        self.check_raises(0, [("join", 0, 0), ("join", 1, 1)])
        self.check_raises(7, [("repeat", row, 1) for row in range(7)] + [("repeat", 8, 1)])

    def test_right_pipelines_raise_nothing(self):
        for steps in ([], BRIDGE, APART, ALL_WORDS, [("repeat", row, 1) for row in range(8)]):
            self.check_right(steps)


if __name__ == "__main__":
    unittest.main()

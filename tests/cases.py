"""What several of the tests ask in the same way."""

import inspect
import unittest

from fitsizes.fitting import fitting_sizes
from fitsizes.pipelines import Pipeline
from tests.plain import steady_steps


def steady_pipelines(chance, many):
    """Yield so many lists of steps that all sizes of some classes fit, with their pipelines."""
    while many > 0:
        steps = steady_steps(chance)
        pipeline = Pipeline(steps)
        if fitting_sizes(pipeline)[0] == "classes":
            many -= 1
            yield steps, pipeline


class Case(unittest.TestCase):

    def check_raises(self, error, value, function, *args, **named):
        """The call raises this very error, with this value."""
        with self.subTest(function=function.__name__, args=args[1:], named=named):
            with self.assertRaises(error) as caught:
                function(*args, **named)
            self.assertIs(type(caught.exception), error)
            self.assertEqual(caught.exception.value, value)

    def check_functions(self, module, told):
        """told: the names of the parameters by the names of the functions that the module has to define."""
        for name in told:
            with self.subTest(name=name):
                function = getattr(module, name)
                self.assertEqual(function.__module__, module.__name__)
                self.assertEqual(list(inspect.signature(function).parameters), told[name])

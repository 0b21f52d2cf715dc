"""Sheets of pipelines that change."""

from fitsizes.errors import InvalidNumber, NothingToUndo
from fitsizes.fitting import fitting_sizes
from fitsizes.pipelines import Pipeline
from fitsizes.readings import read_pipeline
from fitsizes.sizes import sizes_at


class Sheet:
    """A pipeline that changes, and whose changes can be taken back."""

    def __init__(self, pipeline):
        self._pipeline = Pipeline(pipeline.steps)
        self._earlier = []

    @classmethod
    def of_text(cls, text):
        """Return a sheet with the pipeline of a text."""
        return cls(read_pipeline(text))

    @property
    def pipeline(self):
        """The present pipeline."""
        return self._pipeline

    def __eq__(self, other):
        return isinstance(other, Sheet) and self._pipeline == other._pipeline

    def sizes(self, size):
        """Yield the sizes of all rows for a size of the input, whether it fits or not."""
        yield from sizes_at(self._pipeline, size)

    def add(self, step):
        """Add a step at the end; return the forms before and after."""
        return self._turn_to(self._pipeline.steps + [step])

    def put(self, number, step):
        """Put a step in the place of another one; return the forms before and after."""
        steps = self._pipeline.steps
        if number < 0 or number >= len(steps):
            raise InvalidNumber(number)
        steps[number] = step
        return self._turn_to(steps)

    def cut(self, number):
        """Keep the first steps, so many of them; return the forms before and after."""
        steps = self._pipeline.steps
        if number < 0 or number > len(steps):
            raise InvalidNumber(number)
        return self._turn_to(steps[:number])

    def undo(self):
        """Take back the last change that was not taken back yet."""
        if len(self._earlier) == 0:
            raise NothingToUndo(0)
        self._pipeline = self._earlier.pop()

    def _turn_to(self, steps):
        # All that may raise an error comes first, so that a call that raises one changes nothing.
        made = Pipeline(steps)
        forms = (fitting_sizes(self._pipeline), fitting_sizes(made))
        self._earlier.append(self._pipeline)
        self._pipeline = made
        return forms

"""Pipelines: steps that make rows of cells from earlier rows."""

from fitsizes.errors import InvalidPipeline

# How many items a step of each word has, the word and its rows among them.
ITEMS = {"window": 5, "repeat": 3, "crop": 4, "pad": 4, "join": 3}


def named_rows(step):
    """Return the list of the rows that a step makes its row from."""
    if step[0] == "join":
        return [step[1], step[2]]
    return [step[1]]


def has_right_numbers(step):
    """Tell whether the numbers behind the row of a step, not a join, are within their bounds."""
    numbers = step[2:]
    if step[0] == "window":
        length, stride, pad = numbers
        return 1 <= stride <= length and 0 <= pad < length
    if step[0] == "repeat":
        return numbers[0] >= 1
    return min(numbers) >= 0


def is_step(step):
    """Tell whether a step may have some number in a pipeline: it is right but for how many rows there are."""
    if len(step) == 0 or len(step) != ITEMS.get(step[0]):
        return False
    if min(named_rows(step)) < 0:
        return False
    if step[0] == "join":
        return step[1] != step[2]
    return has_right_numbers(step)


def is_right(step, number):
    """Tell whether a step may have a number in a pipeline."""
    return is_step(step) and max(named_rows(step)) <= number


def moved(step, count):
    """Return a step with the rows that it names counted on by a count."""
    if step[0] == "join":
        return ("join", step[1] + count, step[2] + count)
    return (step[0], step[1] + count) + step[2:]


class Pipeline:
    """A list of right steps."""

    def __init__(self, steps):
        for number, step in enumerate(steps):
            if not is_right(step, number):
                raise InvalidPipeline(number)
        self._steps = list(steps)

    @property
    def steps(self):
        """The list of the steps."""
        return list(self._steps)

    def __len__(self):
        return len(self._steps)

    def __eq__(self, other):
        return isinstance(other, Pipeline) and self._steps == other._steps

    def followed_by(self, other):
        """Return the pipeline of the steps of both, the other one fed with this one's last row."""
        return Pipeline(self._steps + [moved(step, len(self)) for step in other.steps])

"""Steps and pipelines read from their texts."""

from fitsizes.errors import Unreadable
from fitsizes.pipelines import Pipeline, is_right, is_step

MOST_DIGITS = 40


def number_of(word):
    """Return the integer with a text, None if none from 0 on has it."""
    if not word.isascii() or not word.isdigit() or len(word) > MOST_DIGITS:
        return None
    if word[0] == "0" and word != "0":
        return None
    return int(word)


def step_of(text):
    """Return the step with a text, None if none has it."""
    words = text.split(" ")
    # No integer of a right step is below 0, so a text with another one is that of nothing.
    numbers = [number_of(word) for word in words[1:]]
    step = (words[0], *numbers)
    if None in numbers or not is_step(step):
        return None
    return step


def read_step(text):
    """Return the step with a text."""
    step = step_of(text)
    if step is None:
        raise Unreadable(text)
    return step


def read_pipeline(text):
    """Return the pipeline with a text."""
    if text == "-":
        return Pipeline([])
    steps = [step_of(part) for part in text.split("; ")]
    for number, step in enumerate(steps):
        if step is None or not is_right(step, number):
            raise Unreadable(text)
    return Pipeline(steps)

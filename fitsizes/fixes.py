"""Which numbers at steps make sizes fit, and the least changes with which all sizes fit."""

from fitsizes.errors import InvalidNumber, InvalidPlaces
from fitsizes.fitting import fitting_sizes, form_where, joined_lines
from fitsizes.lines import Line
from fitsizes.pipelines import Pipeline
from fitsizes.sizes import check_size, step_line

# How far a fix changes a number, up or down.
FARTHEST = 3


def has_word(steps, place, words):
    """Tell whether there is a step at a place, with one of these words."""
    return 0 <= place < len(steps) and steps[place][0] in words


def check_places(pipeline, places):
    """Raise InvalidPlaces if places are not one or two ascending numbers of crops or pads of a pipeline."""
    if len(places) == 0 or len(places) > 2:
        raise InvalidPlaces(places)
    if len(places) == 2 and places[0] >= places[1]:
        raise InvalidPlaces(places)
    steps = pipeline.steps
    for place in places:
        if not has_word(steps, place, ("crop", "pad")):
            raise InvalidPlaces(places)


def changed(steps, places, changes):
    """Return the pipeline of these steps in which the right numbers at places are greater by changes."""
    made = list(steps)
    for place, change in zip(places, changes):
        word, row, left, right = steps[place]
        made[place] = (word, row, left, right + change)
    return Pipeline(made)


def with_changes(pipeline, places, changes):
    """Return the pipeline in which the right numbers of the steps at places are greater by changes."""
    check_places(pipeline, places)
    steps = pipeline.steps
    for place, change in zip(places, changes):
        if steps[place][3] + change < 0:
            raise InvalidNumber(change)
    return changed(steps, places, changes)


def possible_changes(steps, places):
    """Return the list of the tuples of changes that a fix may make, those that change the least first."""
    found = [()]
    for place in places:
        low = max(-FARTHEST, -steps[place][3])
        found = [told + (change,) for told in found for change in range(low, FARTHEST + 1)]
    ordered = sorted([(sum([abs(change) for change in told]), told) for told in found])
    return [told for _, told in ordered]


def least_fix(pipeline, places):
    """Return the tuple of the least changes at places with which all sizes from the least one on fit, or None."""
    check_places(pipeline, places)
    steps = pipeline.steps
    for changes in possible_changes(steps, places):
        form = fitting_sizes(changed(steps, places, changes))
        if form[0] == "classes" and form[2] == 1:
            return changes
    return None


def lines_by_pad(steps, place, size):
    """Return the list of the lines of the sizes of all rows, by the right number of the pad at a place."""
    lines = [Line([size], 0)]
    for number, step in enumerate(steps):
        inner = lines[step[1]]
        if number == place:
            # The row that the pad goes around is earlier, so its line is level.
            lines.append(Line([inner.at(0) + step[2]], 1))
        else:
            lines.append(step_line(step).after(inner))
    return lines


def pads_for(pipeline, place, size):
    """Return the form of the right numbers, from 0 on, of the pad at a place for which a size fits."""
    steps = pipeline.steps
    if not has_word(steps, place, ("pad",)):
        raise InvalidPlaces(place)
    check_size(size)
    lines = lines_by_pad(steps, place, size)
    return form_where(lines, joined_lines(pipeline, lines), 0)

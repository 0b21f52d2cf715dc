"""Which input cells the output needs, and which output cells the input reaches."""

from fitsizes.errors import InvalidCell
from fitsizes.pipelines import named_rows
from fitsizes.sizes import fitting_rows


def check_cell(cell, size):
    """Raise InvalidCell if a row of a size has no such cell."""
    if cell < 0 or cell >= size:
        raise InvalidCell(cell)


def check_cells(first, last, size):
    """Raise InvalidCell if a row of a size has no first or last cell, or they are the wrong way round."""
    check_cell(first, size)
    check_cell(last, size)
    if last < first:
        raise InvalidCell(last)


def cells_used(step, first, last):
    """Return the first and the last place that a step uses for the cells from first to last, perhaps off its row."""
    if step[0] == "window":
        length, stride, pad = step[2:]
        # No stride is greater than the length, so neighbouring windows leave no gap.
        return (stride * first - pad, stride * last - pad + length - 1)
    if step[0] == "repeat":
        return (first // step[2], last // step[2])
    if step[0] == "crop":
        return (first + step[2], last + step[2])
    if step[0] == "pad":
        return (first - step[2], last - step[2])
    return (first, last)


def cells_using(step, first, last):
    """Return the first and the last place of a step that uses cells from first to last, perhaps off its row."""
    if step[0] == "window":
        length, stride, pad = step[2:]
        # Rounded up: the first window whose last cell is not ahead of the first one of these.
        return (-((length - 1 - pad - first) // stride), (last + pad) // stride)
    if step[0] == "repeat":
        return (first * step[2], last * step[2] + step[2] - 1)
    if step[0] == "crop":
        return (first - step[2], last - step[2])
    if step[0] == "pad":
        return (first + step[2], last + step[2])
    return (first, last)


def within(bounds, size):
    """Return the ranges of the cells within first and last bounds of a row of a size, or of an endless one: None."""
    if size is None:
        return [bounds]
    first = max(bounds[0], 0)
    last = min(bounds[1], size - 1)
    if first > last:
        return []
    return [(first, last)]


def put_together(ranges):
    """Return the ranges, as few as can be, of the cells that are in some of these ranges."""
    told = []
    for first, last in sorted(ranges):
        if len(told) > 0 and first <= told[-1][1] + 1:
            told[-1] = (told[-1][0], max(told[-1][1], last))
        else:
            told.append((first, last))
    return told


def needed_rows(pipeline, sizes, first, last):
    """Return for each row the ranges of its cells that the output cells from first to last need.

    The sizes are those of the rows, or None for each of them: endless rows, which are as all rows are that are great
    enough, far from their ends.
    """
    steps = pipeline.steps
    found = [[] for _ in sizes]
    found[-1] = [(first, last)]
    for number in reversed(range(len(steps))):
        step = steps[number]
        made = found[number + 1]
        for row in named_rows(step):
            used = [cells_used(step, low, high) for low, high in made]
            there = [one for bounds in used for one in within(bounds, sizes[row])]
            found[row] = put_together(found[row] + there)
    return found


def reached_rows(pipeline, sizes, first, last):
    """Return for each row the ranges of its cells that the input cells from first to last reach."""
    found = [[(first, last)]]
    for number, step in enumerate(pipeline.steps):
        told = [cells_using(step, low, high) for row in named_rows(step) for low, high in found[row]]
        found.append(put_together([one for bounds in told for one in within(bounds, sizes[number + 1])]))
    return found


def needs(pipeline, size, first, last):
    """Return the ranges of the input cells that some output cell from first to last needs."""
    sizes = fitting_rows(pipeline, size)
    check_cells(first, last, sizes[-1])
    return needed_rows(pipeline, sizes, first, last)[0]


def reach(pipeline, size, first, last):
    """Return the ranges of the output cells that need some input cell from first to last."""
    sizes = fitting_rows(pipeline, size)
    check_cells(first, last, size)
    return reached_rows(pipeline, sizes, first, last)[-1]


def reached_by(pipeline, size, output, cell):
    """Tell whether an output cell needs an input cell."""
    sizes = fitting_rows(pipeline, size)
    check_cell(output, sizes[-1])
    check_cell(cell, size)
    for first, last in needed_rows(pipeline, sizes, output, output)[0]:
        if first <= cell <= last:
            return True
    return False

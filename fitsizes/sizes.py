"""The sizes of the rows of a pipeline, and whether a size goes through it."""

from fitsizes.errors import InvalidNumber, InvalidRow, NotFitting
from fitsizes.lines import Line


def check_size(size):
    """Raise InvalidNumber if an input cannot have this size."""
    if size < 1:
        raise InvalidNumber(size)


def check_row(pipeline, row):
    """Raise InvalidRow if a pipeline has no row with this number."""
    if row < 0 or row > len(pipeline):
        raise InvalidRow(row)


def cells_made(step, cells):
    """Return how many cells a step makes from a row of so many cells."""
    if step[0] == "window":
        length, stride, pad = step[2:]
        return (cells + 2 * pad - length) // stride + 1
    if step[0] == "repeat":
        return step[2] * cells
    if step[0] == "crop":
        return cells - step[2] - step[3]
    if step[0] == "pad":
        return cells + step[2] + step[3]
    return cells


def step_line(step):
    """Return the line that gives how many cells a step makes from how many."""
    period = 1
    if step[0] == "window":
        period = step[3]
    starts = [cells_made(step, cells) for cells in range(period)]
    return Line(starts, cells_made(step, period) - starts[0])


def row_lines(pipeline):
    """Return the list of the lines of the sizes of all rows."""
    lines = [Line([0], 1)]
    for step in pipeline.steps:
        lines.append(step_line(step).after(lines[step[1]]))
    return lines


def size_line(pipeline, row):
    """Return the line of the sizes of a row."""
    check_row(pipeline, row)
    return row_lines(pipeline)[row]


def sizes_at(pipeline, size):
    """Return the list of the sizes of all rows for a size of the input, whether it fits or not."""
    check_size(size)
    sizes = [size]
    for step in pipeline.steps:
        sizes.append(cells_made(step, sizes[step[1]]))
    return sizes


def why_not(pipeline, size):
    """Return what is wrong at the first row that a size does not fit, None if it fits."""
    sizes = sizes_at(pipeline, size)
    for number, step in enumerate(pipeline.steps):
        row = number + 1
        if sizes[row] < 1:
            return ("small", row, sizes[row])
        if step[0] == "join" and sizes[step[1]] != sizes[step[2]]:
            return ("join", row, sizes[step[1]], sizes[step[2]])
    return None


def fits(pipeline, size):
    """Tell whether a size goes through a pipeline."""
    return why_not(pipeline, size) is None


def fitting_rows(pipeline, size):
    """Return the sizes of all rows for a size that fits; raise NotFitting for one that does not."""
    fault = why_not(pipeline, size)
    if fault is not None:
        raise NotFitting(fault[1])
    return sizes_at(pipeline, size)

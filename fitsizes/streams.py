"""Which cells the rows must keep while the output is made from the left."""

from math import lcm

from fitsizes.errors import NotSteady
from fitsizes.fitting import fitting_sizes
from fitsizes.needs import check_cell, needed_rows
from fitsizes.sizes import check_row, fitting_rows, row_lines


def check_steady(pipeline):
    """Raise NotSteady if only some sizes fit a pipeline."""
    if fitting_sizes(pipeline)[0] == "some":
        raise NotSteady(None)


def in_both(ranges, others):
    """Return the ranges of the cells that are both in these ranges and in the other ones."""
    told = []
    for first, last in ranges:
        for low, high in others:
            if first <= high and low <= last:
                told.append((max(first, low), min(last, high)))
    return told


def kept(pipeline, size, row, cell):
    """Return the ranges of the cells of a row that it must keep while an output cell is made."""
    sizes = fitting_rows(pipeline, size)
    check_row(pipeline, row)
    check_cell(cell, sizes[-1])
    so_far = needed_rows(pipeline, sizes, 0, cell)[row]
    from_now = needed_rows(pipeline, sizes, cell, sizes[-1] - 1)[row]
    return in_both(so_far, from_now)


def endless_needs(pipeline, first, last):
    """Return for each row the ranges of its cells that these output cells need, if no row has an end."""
    return needed_rows(pipeline, [None] * (len(pipeline) + 1), first, last)


def whole_round(pipeline):
    """Return how many input and output cells a round has: so many outputs on, all needs are the same, moved on."""
    lines = row_lines(pipeline)
    inputs = 1
    for row, ranges in enumerate(endless_needs(pipeline, 0, 0)):
        # A row that no output needs would only make the round longer.
        if len(ranges) > 0:
            inputs = lcm(inputs, len(lines[row]))
    return (inputs, lines[-1].at(inputs) - lines[-1].at(0))


def greatest_kept(pipeline, row):
    """Return the greatest number of cells of a row kept at once, if no row has an end."""
    most = 0
    for cell in range(whole_round(pipeline)[1]):
        ranges = endless_needs(pipeline, cell, cell)[row]
        if len(ranges) > 0:
            # Lesser cells are first and last needed by outputs that are not greater: so each cell between the first
            # and the last one that this output needs is needed both up to this output and from it on.
            most = max(most, ranges[-1][1] - ranges[0][0] + 1)
    return most


def steady_kept(pipeline, row):
    """Return the greatest number of cells of a row kept at once, for all fitting sizes."""
    check_steady(pipeline)
    check_row(pipeline, row)
    return greatest_kept(pipeline, row)

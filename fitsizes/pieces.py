"""How many input cells neighbouring output cells need together, in the long run."""

from math import gcd

from fitsizes.sizes import check_size, row_lines
from fitsizes.streams import check_steady, endless_needs, greatest_kept, whole_round


def count_cells(ranges):
    """Return how many cells there are in ranges."""
    return sum([last - first + 1 for first, last in ranges])


def greatest_need(pipeline, outputs, count):
    """Return how many input cells so many neighbouring outputs need at most, if a round has these outputs."""
    return max([count_cells(endless_needs(pipeline, cell, cell + count - 1)[0]) for cell in range(outputs)])


def steady_piece(pipeline, count):
    """Return the greatest number of input cells that count neighbouring outputs need, for all fitting sizes."""
    check_steady(pipeline)
    check_size(count)
    return greatest_need(pipeline, whole_round(pipeline)[1], count)


def greatest_piece(pipeline, most):
    """Return the greatest number of neighbouring outputs that never need more than most input cells together."""
    check_steady(pipeline)
    check_size(most)
    inputs, outputs = whole_round(pipeline)
    # The outputs of so many rounds need the inputs of as many at least, and at most the cells of one output more.
    low = max(0, (most - greatest_kept(pipeline, 0)) // inputs) * outputs
    high = (most // inputs + 1) * outputs
    while low + 1 < high:
        middle = (low + high) // 2
        if greatest_need(pipeline, outputs, middle) <= most:
            low = middle
        else:
            high = middle
    return low


def steady_step(pipeline):
    """Return how many outputs more take how many inputs more in the long run, in lowest terms."""
    check_steady(pipeline)
    line = row_lines(pipeline)[-1]
    part = gcd(line.rise, len(line))
    return (line.rise // part, len(line) // part)

"""Which sizes of the input give an output."""

from fitsizes.fitting import next_fitting
from fitsizes.sizes import check_size, fits, size_line


def inputs_for(pipeline, output):
    """Return the ascending list of the fitting sizes with an output of so many cells."""
    check_size(output)
    line = size_line(pipeline, len(pipeline))
    # The line never falls, so it stays at one value for a short run of sizes.
    low = max(1, line.least_at(output))
    return [size for size in range(low, line.least_at(output + 1)) if fits(pipeline, size)]


def least_input(pipeline, output):
    """Return the least fitting size with an output of at least so many cells, or None."""
    check_size(output)
    return next_fitting(pipeline, max(1, size_line(pipeline, len(pipeline)).least_at(output)))

"""The sizes that fit a pipeline: their form, and which are next, how many, and the one with a number."""

from math import lcm

from fitsizes.errors import InvalidNumber
from fitsizes.lines import lead_at
from fitsizes.sizes import check_size, row_lines


def joined_lines(pipeline, lines):
    """Return the list of the pairs of lines of the rows that the joins put together."""
    return [(lines[step[1]], lines[step[2]]) for step in pipeline.steps if step[0] == "join"]


def rise_alike(first, second):
    """Tell whether two lines rise by as much in the long run."""
    return first.rise * len(second) == second.rise * len(first)


def all_meetings(first, second, low):
    """Return the ascending list of all places from low on where two lines that rise apart are equal."""
    span = lcm(len(first), len(second))
    gain = lead_at(first, second, span) - lead_at(first, second, 0)
    found = []
    for place in range(low, low + span):
        lead = lead_at(first, second, place)
        # At place + k * span the lead is lead + k * gain, so it is 0 for one k at most.
        if lead % gain == 0 and lead // gain <= 0:
            found.append(place - (lead // gain) * span)
    return sorted(found)


def are_equal_at(pairs, place):
    """Tell whether the lines of each pair are equal at a place."""
    for first, second in pairs:
        if first.at(place) != second.at(place):
            return False
    return True


def remainders(sizes, period):
    """Return the ascending list of the remainders of sizes by a period."""
    return sorted({size % period for size in sizes})


def shortest_period(sizes, span):
    """Return the least period of the classes by a span of which these sizes are one each."""
    for period in range(1, span):
        # Each remainder by the period stands for span // period classes: all are there if as many sizes are.
        if span % period == 0 and len(remainders(sizes, period)) * (span // period) == len(sizes):
            return period
    return span


def form_of_classes(pairs, low):
    """Return the form of the integers from low on where pairs of lines are equal that rise alike."""
    span = 1
    for first, second in pairs:
        span = lcm(span, lcm(len(first), len(second)))
    sizes = [size for size in range(low, low + span) if are_equal_at(pairs, size)]
    if len(sizes) == 0:
        return ("some", [])
    period = shortest_period(sizes, span)
    return ("classes", sizes[0], period, remainders(sizes, period))


def form_where(lines, pairs, low):
    """Return the form of the integers from low on where all lines are at least 1 and those of each pair are equal."""
    for line in lines:
        if line.rise > 0:
            # Lines never fall: from this place on the line is at least 1, and below it it is not.
            low = max(low, line.least_at(1))
        elif line.at(0) < 1:
            return ("some", [])
    for first, second in pairs:
        if not rise_alike(first, second):
            return ("some", [place for place in all_meetings(first, second, low) if are_equal_at(pairs, place)])
    return form_of_classes(pairs, low)


def fitting_sizes(pipeline):
    """Return the form of the sizes that fit a pipeline."""
    lines = row_lines(pipeline)
    return form_where(lines, joined_lines(pipeline, lines), 1)


def count_to(period, residues, last):
    """Return how many integers from 0 to a last one have one of these residues."""
    return last // period * len(residues) + len([residue for residue in residues if residue <= last % period])


def count_in_form(form, last):
    """Return how many sizes of a form are not greater than a last one."""
    if form[0] == "some":
        return len([size for size in form[1] if size <= last])
    least, period, residues = form[1:]
    if last < least:
        return 0
    return count_to(period, residues, last) - count_to(period, residues, least - 1)


def nth_in_form(form, number):
    """Return the size of a form with a number, None if there is none."""
    if form[0] == "some":
        if number < len(form[1]):
            return form[1][number]
        return None
    least, period, residues = form[1:]
    whole = number + count_to(period, residues, least - 1)
    return whole // len(residues) * period + residues[whole % len(residues)]


def next_fitting(pipeline, size):
    """Return the least fitting size that is not less than a size, or None."""
    check_size(size)
    form = fitting_sizes(pipeline)
    return nth_in_form(form, count_in_form(form, size - 1))


def count_fitting(pipeline, low, high):
    """Return the number of fitting sizes from low to high."""
    check_size(low)
    if high < low:
        raise InvalidNumber(high)
    form = fitting_sizes(pipeline)
    return count_in_form(form, high) - count_in_form(form, low - 1)


def nth_fitting(pipeline, number):
    """Return the fitting size with a number, ascending from 0 on, or None."""
    if number < 0:
        raise InvalidNumber(number)
    return nth_in_form(fitting_sizes(pipeline), number)

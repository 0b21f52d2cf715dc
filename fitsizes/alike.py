"""Whether two pipelines do the same for all sizes, or the first size that parts them."""

from math import lcm

from fitsizes.fitting import fitting_sizes, nth_in_form
from fitsizes.sizes import fits, size_line, sizes_at


def output_at(pipeline, size):
    """Return the size of the output for a size that fits, None for one that does not."""
    if not fits(pipeline, size):
        return None
    return sizes_at(pipeline, size)[-1]


def common_period(pipelines, forms):
    """Return a common period of the outputs of pipelines and of those of their forms that have one."""
    span = 1
    for pipeline in pipelines:
        span = lcm(span, len(size_line(pipeline, len(pipeline))))
    for form in forms:
        if form[0] == "classes":
            span = lcm(span, form[2])
    return span


def sizes_to_try(form, other, span):
    """Return the list of the sizes of a form among which one parts it from another, if any does."""
    if form[0] == "some":
        return form[1]
    if other[0] == "some":
        many = len(other[1])
    else:
        many = span // form[2] * len(form[3])
    # One more: the other form cannot have them all, and outputs that are equal for a whole round either are so
    # for ever or rise apart, and then they part at the first size of the next round.
    return [nth_in_form(form, number) for number in range(many + 1)]


def parting_size(first, second):
    """Return the least size that fits one of two pipelines alone, or both with unlike outputs, or None."""
    one = fitting_sizes(first)
    two = fitting_sizes(second)
    span = common_period([first, second], [one, two])
    for size in sorted(set(sizes_to_try(one, two, span) + sizes_to_try(two, one, span))):
        if output_at(first, size) != output_at(second, size):
            return size
    return None


def are_alike(first, second):
    """Tell whether no size parts two pipelines."""
    return parting_size(first, second) is None

"""Stepped lines: integers that never fall and grow by one rise in each period."""

from math import gcd, lcm

from fitsizes.errors import InvalidLine


def check_line(starts, rise):
    """Raise InvalidLine if starts and a rise tell no line."""
    if len(starts) == 0:
        raise InvalidLine(None)
    for number in range(1, len(starts)):
        if starts[number] < starts[number - 1]:
            raise InvalidLine(number)
    if starts[-1] > starts[0] + rise:
        raise InvalidLine(len(starts))


def is_period(starts, rise, period):
    """Tell whether a line has a period that divides the number of its starts."""
    many = len(starts)
    if rise * period % many != 0:
        return False
    part = rise * period // many
    for number in range(period, many):
        if starts[number] != starts[number - period] + part:
            return False
    return True


def least_period(starts, rise):
    """Return the least period of the line with these starts and this rise."""
    many = len(starts)
    for period in range(1, many):
        # The least period divides all others, so only divisors can be it.
        if many % period == 0 and is_period(starts, rise, period):
            return period
    return many


def first_at_least(starts, value):
    """Return the number of the first start that is at least a value, if the last one is."""
    low = 0
    high = len(starts) - 1
    while low < high:
        middle = (low + high) // 2
        if starts[middle] < value:
            low = middle + 1
        else:
            high = middle
    return low


def lead_at(first, second, place):
    """Return by how much the first of two lines is above the second at a place."""
    return first.at(place) - second.at(place)


class Line:
    """A stepped line, kept in its least form."""

    def __init__(self, starts, rise):
        check_line(starts, rise)
        period = least_period(starts, rise)
        self._starts = starts[:period]
        self._rise = rise * period // len(starts)

    @property
    def starts(self):
        """The values at the places of the first least period, from place 0 on."""
        return list(self._starts)

    @property
    def rise(self):
        """The integer by which the line grows in its least period."""
        return self._rise

    def __len__(self):
        return len(self._starts)

    def __eq__(self, other):
        return isinstance(other, Line) and self._rise == other._rise and self._starts == other._starts

    def __add__(self, other):
        many = lcm(len(self), len(other))
        starts = [self.at(place) + other.at(place) for place in range(many)]
        return Line(starts, self.at(many) + other.at(many) - starts[0])

    def at(self, n):
        """Return the value at a place."""
        many = len(self._starts)
        return self._starts[n % many] + (n // many) * self._rise

    def after(self, inner):
        """Return the line that gives this line's value at the inner line's value."""
        # So many periods of the inner line are needed until its values have grown by whole periods of this one.
        turns = len(self) // gcd(len(self), inner.rise)
        many = turns * len(inner)
        starts = [self.at(inner.at(place)) for place in range(many)]
        return Line(starts, self.at(inner.at(many)) - starts[0])

    def least_at(self, value):
        """Return the least place where the line is at least a value, None if there is no least one."""
        if self._rise == 0:
            return None
        # The last value of a period is its greatest, so this is the first period that comes up to the value.
        turn = -((self._starts[-1] - value) // self._rise)
        number = first_at_least(self._starts, value - turn * self._rise)
        return turn * len(self._starts) + number

    def meeting(self, other, start):
        """Return the least place from start on where both lines are equal, or None."""
        span = lcm(len(self), len(other))
        gain = lead_at(self, other, span) - lead_at(self, other, 0)
        best = None
        for place in range(start, start + span):
            lead = lead_at(self, other, place)
            if lead == 0:
                # All places that were put off lie a span or more behind one in this span.
                return place
            # At place + k * span the lead is lead + k * gain: 0 for at most one k, and only k above 0 count.
            if lead * gain < 0 and lead % gain == 0:
                later = place - (lead // gain) * span
                if best is None or later < best:
                    best = later
        return best

    def parting(self, other, start):
        """Return the least place from start on where the lines are not equal, or None."""
        if self == other:
            return None
        place = start
        # Unlike lines part within one place more than a common period, wherever they start.
        while self.at(place) == other.at(place):
            place += 1
        return place

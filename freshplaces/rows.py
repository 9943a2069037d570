"""Rows, which are tuples of integers, and what some rows span."""

from math import gcd, lcm

from freshplaces.errors import InvalidRow
from freshplaces.kinds import is_whole


def is_row(value, width):
    """Whether any value is a row of a width."""
    return isinstance(value, tuple) and len(value) == width and all([is_whole(number) for number in value])


def check_rows(rows, width):
    """Raises InvalidRow with the first of the rows that is no row of this width."""
    for row in rows:
        if not is_row(row, width):
            raise InvalidRow(row)


def reduced(rows, width):
    """The list of the reduced rows with the span of a list of rows."""
    check_rows(rows, width)
    found = []
    for row in rows:
        found = _with_row(found, row)
    return found


def kernel(rows, width):
    """Independent rows that span those whose product with each of the rows is 0."""
    found = reduced(rows, width)
    leading = [_first_place(row) for row in found]
    return [_kernel_row(found, leading, place, width) for place in range(width) if place not in leading]


def product(one, other):
    """The sum of the products of the numbers at the same places of two rows."""
    return sum([number * factor for number, factor in zip(one, other)])


def remainder(row, found):
    """What is left of a row, up to a factor, when reduced rows are taken away from it."""
    rest = row
    for one in found:
        rest = _cleared(rest, one, _first_place(one))
    return rest


def _with_row(found, row):
    """The reduced rows of the span of reduced rows and one row more."""
    rest = remainder(row, found)
    if not any(rest):
        return found
    place = _first_place(rest)
    one = _leading_above_zero(without_factor(rest), place)
    others = [_cleared(other, one, place) for other in found]
    ahead = [other for other in others if _first_place(other) < place]
    behind = [other for other in others if _first_place(other) > place]
    return ahead + [one] + behind


def _first_place(row):
    """The place of the first number other than 0; the width if there is none."""
    for place, number in enumerate(row):
        if number != 0:
            return place
    return len(row)


def _cleared(row, one, place):
    """A multiple of a row, above 0, less a multiple of another one, so that it has 0 at a place.

    The other row has a number above 0 there.
    """
    if row[place] == 0:
        return row
    factor = one[place]
    return without_factor([number * factor - row[place] * other for number, other in zip(row, one)])


def without_factor(numbers):
    """The row of these numbers, divided by what is common to all of them."""
    common = 0
    for number in numbers:
        common = gcd(common, number)
    if common < 2:
        return tuple(numbers)
    return tuple([number // common for number in numbers])


def _leading_above_zero(row, place):
    """The row or its negative, whichever has a number above 0 at the place."""
    if row[place] > 0:
        return row
    return tuple([-number for number in row])


def _kernel_row(found, leading, free, width):
    """The row of the kernel that has 0 at all places that lead no reduced row, except at this free one."""
    scale = 1
    for row, place in zip(found, leading):
        scale = lcm(scale, row[place])
    numbers = [0] * width
    numbers[free] = scale
    for row, place in zip(found, leading):
        numbers[place] = -row[free] * (scale // row[place])
    return without_factor(numbers)

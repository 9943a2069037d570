"""The spans of rows."""

from freshplaces.errors import InvalidRow
from freshplaces.kinds import is_whole
from freshplaces.rows import is_row, reduced, remainder


class Space:
    """The span of a list of rows of one width."""

    def __init__(self, width, rows):
        if not is_whole(width) or width < 1:
            raise InvalidRow(width)
        self._width = width
        self._rows = reduced(rows, width)

    @property
    def width(self):
        """How many numbers each row has."""
        return self._width

    @property
    def rows(self):
        """The list of the reduced rows."""
        return list(self._rows)

    def __contains__(self, row):
        return is_row(row, self._width) and not any(remainder(row, self._rows))

    def __len__(self):
        return len(self._rows)

    def __eq__(self, other):
        return isinstance(other, Space) and self._width == other._width and self._rows == other._rows

    def __or__(self, other):
        if not _is_space(other, self._width):
            raise InvalidRow(other)
        return Space(self._width, self._rows + other._rows)

    def is_within(self, other):
        """Whether another space of the same width has all rows of this one."""
        if not _is_space(other, self._width):
            raise InvalidRow(other)
        return all([row in other for row in self._rows])


def _is_space(value, width):
    """Whether any value is a space of this width."""
    return isinstance(value, Space) and value.width == width

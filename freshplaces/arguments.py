"""Checks of arguments that many functions of the package have in common."""

from freshplaces.errors import InvalidFaults, UnknownName
from freshplaces.kinds import is_whole

STARTS = ("right", "any")
MOST_FAULTS = 3


def check_start(start):
    """Raises UnknownName for any value that tells no start of runs."""
    if not isinstance(start, str) or start not in STARTS:
        raise UnknownName(start)


def check_faults(faults):
    """Raises InvalidFaults for any value that is no number of updates that runs may miss."""
    if not is_whole(faults) or faults < 0 or faults > MOST_FAULTS:
        raise InvalidFaults(faults)

"""Checks of arguments that many functions of the package have in common."""

from freshplaces.actions import check_updates
from freshplaces.errors import InvalidFaults, UnknownName
from freshplaces.kinds import is_whole

STARTS = ("right", "any")
MOST_FAULTS = 3


def check_arguments(program, updates, start, faults):
    """Raises the first error of any values as updates of a program, as a start, and as a number of faults."""
    check_updates(program, updates)
    check_start(start)
    check_faults(faults)


def check_start(start):
    """Raises UnknownName for any value that tells no start of runs."""
    if not isinstance(start, str) or start not in STARTS:
        raise UnknownName(start)


def check_faults(faults):
    """Raises InvalidFaults for any value that is no number of updates that runs may miss."""
    if not is_whole(faults) or faults < 0 or faults > MOST_FAULTS:
        raise InvalidFaults(faults)

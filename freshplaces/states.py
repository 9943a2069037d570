"""The values with which runs arrive at places, and where kept variables are right."""

from freshplaces.arguments import MOST_FAULTS, check_arguments
from freshplaces.codes import Code
from freshplaces.errors import UnknownName, UnknownProcedure
from freshplaces.places import is_place, uses_of
from freshplaces.plans import plan_of
from freshplaces.rows import kernel
from freshplaces.spaces import Space
from freshplaces.spans import Span
from freshplaces.walks import Walk, stale_run


class States:
    """The values at the places of a program, in all runs that miss at most faults of the updates."""

    def __init__(self, program, updates=(), start="right", faults=0):
        check_arguments(program, updates, start, faults)
        code = Code(program)
        walk = Walk(code, plan_of(program, code.frame, updates), code.frame.first_entries(start), faults)
        walk.go(False)
        self._program = program
        self._frame = code.frame
        self._width = code.frame.many + 1
        self._arrivals = {spot: _needed(traces, self._width) for spot, traces in walk.arrivals.items()}
        self._endings = walk.endings()

    def space(self, name, place):
        """The span of the values at a place of all runs that arrive."""
        return Space(self._width, self._rows_at(name, place))

    def equations(self, name, place):
        """Independent rows that span those whose product with the values of each arriving run is 0."""
        return kernel(self._rows_at(name, place), self._width)

    def arrived(self, name, place):
        """The list of tuples (values, entry, choices, missed) of runs whose values span the space."""
        return [(trace.row,) + trace.parts() for trace in self._traces_at(name, place)]

    def stale(self, name, place, kept):
        """A run (entry, choices, missed) that arrives while a kept variable is not right; None if there is none."""
        arrivals = self._traces_at(name, place)
        if not isinstance(kept, str) or kept not in self._program.kept:
            raise UnknownName(kept)
        column = self._frame.columns[kept]
        for trace in arrivals:
            if not self._frame.is_right(column, trace.row):
                return trace.parts()
        return None

    def is_right(self, name, place, kept):
        """Whether a kept variable is right in all runs that arrive at a place."""
        return self.stale(name, place, kept) is None

    def uses(self):
        """The list of all uses in the start and in the procedures that it reaches."""
        return uses_of(self._program)

    def stale_uses(self):
        """The list of the uses at which the kept variable is not right in all runs."""
        return [(name, place, kept) for name, place, kept in self.uses() if not self.is_right(name, place, kept)]

    def right_at_end(self):
        """The list of the kept variables that are right at the end of all runs."""
        found = []
        for kept in self._program.kept:
            column = self._frame.columns[kept]
            if all([self._frame.is_right(column, trace.row) for trace in self._endings]):
                found.append(kept)
        return found

    def _traces_at(self, name, place):
        if name not in self._program:
            raise UnknownProcedure(name)
        if not is_place(self._program, name, place):
            raise UnknownName(place)
        return self._arrivals.get((name, place), [])

    def _rows_at(self, name, place):
        return [trace.row for trace in self._traces_at(name, place)]


def is_right(program, updates=(), start="right", faults=0):
    """Whether at all uses the kept variable is right in all runs."""
    check_arguments(program, updates, start, faults)
    code = Code(program)
    return stale_run(code, plan_of(program, code.frame, updates), code.frame.first_entries(start), faults) is None


def tolerance(program, updates=(), start="right"):
    """The greatest number of missed updates with which all uses are right in all runs; None if there is none."""
    check_arguments(program, updates, start, 0)
    right = [faults for faults in range(MOST_FAULTS + 1) if is_right(program, updates, start, faults)]
    return max(right) if right else None


def _needed(traces, width):
    """The traces that are not spanned by those before which miss as many, those that miss fewer first."""
    spans = [Span(width) for _ in range(MOST_FAULTS + 1)]
    found = []
    for trace in sorted(traces, key=lambda one: len(one.missed)):
        if spans[len(trace.missed)].takes(trace.row):
            found.append(trace)
    return found

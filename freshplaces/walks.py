"""Walks through a code: runs whose values at each step span those of all runs there."""

from freshplaces.moves import outcomes, renewals
from freshplaces.spans import Span


class Trace:
    """A run up to some step: its values there, and how it came there."""

    def __init__(self, row, entry, choices, missed, many):
        self.row = row
        self.entry = entry
        self.choices = choices
        self.missed = missed
        # How many updates it has performed or missed.
        self.many = many

    def parts(self):
        """The tuple (entry, choices, missed)."""
        return (self.entry, self.choices, self.missed)

    def after(self, row, missed, deeds, taken):
        """The trace behind some deeds, of which those at some positions are missed, and choices."""
        numbers = tuple([self.many + position for position in missed])
        return Trace(row, self.entry, self.choices + taken, self.missed + numbers, self.many + len(deeds))


class Walk:
    """Goes through the steps of a code along all runs from the span of some entries.

    The runs miss at most faults of the deeds of a plan.

    A trace is left if those that came there before, and miss as many, span its values: what follows from it is
    spanned by what follows from them, because each statement is linear. Traces with fewer statements come first, so
    that the runs that are found are as short as they can be. arrivals has for each pair (procedure, place) the list
    of the traces that are kept there, with the values there.
    """

    def __init__(self, code, plan, entries, faults):
        self.arrivals = {}
        self.stale_use_made = None
        self._code = code
        self._plan = plan
        self._faults = faults
        self._spans = {}
        self._traces = {}
        self._now = [(0, Trace(code.frame.row_of(entry), entry, (), (), 0)) for entry in entries]
        self._later = []

    def go(self, until_stale):
        """Goes on until nothing new comes, or until a use is stale if that is wanted."""
        while self._now:
            at = 0
            while at < len(self._now):
                index, trace = self._now[at]
                self._advance(index, trace)
                if until_stale and self.stale_use_made is not None:
                    return
                at += 1
            self._now = self._later
            self._later = []

    def traces_at(self, index, many_missed):
        """The list of the traces that came to a step and miss so many."""
        return self._traces.get((index, many_missed), [])

    def endings(self):
        """The list of the traces that came to the end."""
        last = len(self._code.steps) - 1
        return [trace for many in range(self._faults + 1) for trace in self.traces_at(last, many)]

    def _advance(self, index, trace):
        """Goes on from a step to the next ones."""
        step = self._code.steps[index]
        if step.word == "jump":
            self._now.append((step.targets[0], trace))
        elif step.word in ("choice", "loop"):
            if self._is_new(index, trace):
                for number, target in enumerate(step.targets):
                    self._now.append((target, trace.after(trace.row, (), (), (number,))))
        elif step.word == "end":
            self._is_new(index, trace)
        else:
            self._arrive(index, step, trace)

    def _arrive(self, index, step, trace):
        """Performs the updates before a statement, and then the statement."""
        deeds = self._plan.renewing.get(step.spot, [])
        for row, missed in renewals(deeds, trace.row, self._faults - len(trace.missed)):
            ready = trace.after(row, missed, deeds, ())
            if self._is_new(index, ready):
                self.arrivals.setdefault(step.spot, []).append(ready)
                self._note_uses(step, ready)
                self._begin(index, step, ready)

    def _begin(self, index, step, trace):
        deeds = self._plan.carrying.get(step.spot, [])
        for row, missed, taken in outcomes(step, deeds, trace.row, self._faults - len(trace.missed)):
            self._later.append((index + 1, trace.after(row, missed, deeds, taken)))

    def _note_uses(self, step, trace):
        stale = [column for column in step.reads if not self._code.frame.is_right(column, trace.row)]
        if stale and self.stale_use_made is None:
            self.stale_use_made = trace

    def _is_new(self, index, trace):
        """Keeps a trace unless those before span its values, and returns whether it does."""
        key = (index, len(trace.missed))
        if key not in self._spans:
            self._spans[key] = Span(len(trace.row))
        if not self._spans[key].takes(trace.row):
            return False
        self._traces.setdefault(key, []).append(trace)
        return True


def stale_run(code, plan, entries, faults):
    """A run (entry, choices, missed) that makes a use of a kept variable that is not right; None if there is none."""
    walk = Walk(code, plan, entries, faults)
    walk.go(True)
    return None if walk.stale_use_made is None else walk.stale_use_made.parts()

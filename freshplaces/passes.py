"""The pass, which goes once through a code and checks what a paper says of its loops."""

from freshplaces.moves import outcomes, renewals
from freshplaces.spaces import Space
from freshplaces.spans import Span


class Pass:
    """Goes once through the steps of a code, with rows that span the values of all runs.

    Rows are kept in layers: a list of rows for each number of missed updates. given has for each loop, by its index,
    the layers with which each of its rounds begins and ends.
    """

    def __init__(self, code, plan, given, faults):
        self._code = code
        self._plan = plan
        self._given = given
        self._faults = faults
        self._width = code.frame.many + 1
        self._coming = {}

    def is_right(self, start):
        """Whether each loop is reached with what is given for it alone, and all uses are right."""
        frame = self._code.frame
        first = self._no_layers()
        first[0] = [frame.row_of(entry) for entry in frame.first_entries(start)]
        self._bring(0, first)
        for index, step in enumerate(self._code.steps):
            if not self._passes(index, step):
                return False
        return True

    def _passes(self, index, step):
        """Brings what comes to a step to the next ones; returns whether all is right there."""
        layers = self._coming.get(index, self._no_layers())
        if step.word == "loop":
            if not self._has_given(index, layers):
                return False
            layers = self._given[index]
        if step.word == "jump" and step.targets[0] in self._given:
            return self._has_given(step.targets[0], layers)
        if step.word in ("choice", "loop", "jump"):
            for target in step.targets:
                self._bring(target, layers)
            return True
        return step.word == "end" or self._performs(index, step, layers)

    def _performs(self, index, step, layers):
        """Goes through a statement; returns whether what it reads is right."""
        ready = self._no_layers()
        renewing = self._plan.renewing.get(step.spot, [])
        for many, rows in enumerate(layers):
            for row in rows:
                for changed, missed in renewals(renewing, row, self._faults - many):
                    ready[many + len(missed)].append(changed)
        rows = [row for layer in ready for row in layer]
        if not all([self._code.frame.is_right(column, row) for column in step.reads for row in rows]):
            return False
        behind = self._no_layers()
        carrying = self._plan.carrying.get(step.spot, [])
        for many, rows in enumerate(ready):
            for row in rows:
                for changed, missed, _ in outcomes(step, carrying, row, self._faults - many):
                    behind[many + len(missed)].append(changed)
        self._bring(index + 1, behind)
        return True

    def _bring(self, index, layers):
        """Adds layers to those that come to a step, without rows that the others span."""
        before = self._coming.get(index, self._no_layers())
        self._coming[index] = [self._needed(old + new) for old, new in zip(before, layers)]

    def _needed(self, rows):
        span = Span(self._width)
        found = []
        for row in rows:
            if span.takes(row):
                found.append(row)
        return found

    def _has_given(self, index, layers):
        """Whether what is given for a loop spans all rows of some layers."""
        for given, rows in zip(self._given[index], layers):
            space = Space(self._width, given)
            if not all([row in space for row in rows]):
                return False
        return True

    def _no_layers(self):
        return [[] for _ in range(self._faults + 1)]

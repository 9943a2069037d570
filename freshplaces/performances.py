"""What the statements of a run do to the values, with the updates of a plan."""

from freshplaces.frames import assigned, renewed, valued


class Performance:
    """A run that has begun with a row of values, and performs updates apart from the missed ones."""

    def __init__(self, frame, plan, row, missed):
        self.row = row
        self.told = []
        self.stale_uses_made = []
        self.work_done = 0
        self._frame = frame
        self._plan = plan
        self._missed = missed
        self._next = 0

    def begin(self, step, number):
        """Performs the updates before a statement, the statement itself, and those that carry there."""
        for deed in self._due(self._plan.renewing.get(step.spot, [])):
            self.row = renewed(self.row, deed.column, deed.terms)
        for column in step.reads:
            if not self._frame.is_right(column, self.row):
                self.stale_uses_made.append(step.spot + (self._frame.names[column],))
        self.work_done += step.size
        if step.word == "set":
            self._assign(step, valued(step.terms, self.row))
        elif step.word == "input":
            self._assign(step, number)
        elif step.word == "tell":
            self.told.append(valued(step.terms, self.row))
        elif step.word == "fresh":
            self.row = renewed(self.row, step.column, step.terms)

    def _assign(self, step, number):
        due = self._due(self._plan.carrying.get(step.spot, []))
        carried = step.carried + [(deed.column, deed.factor) for deed in due]
        self.row = assigned(self.row, step.column, number, carried)

    def _due(self, deeds):
        """Numbers some updates, and returns the list of those that are not missed, which are work."""
        found = []
        for deed in deeds:
            if self._next not in self._missed:
                found.append(deed)
                self.work_done += deed.size
            self._next += 1
        return found

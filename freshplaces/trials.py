"""Trials of many updates by the same runs."""

from freshplaces.codes import Code
from freshplaces.courses import Course
from freshplaces.performances import Performance
from freshplaces.plans import Deed, Plan


class Trials:
    """Runs (entry, choices, missed) that refute updates of candidates: in which a use is stale with them."""

    def __init__(self, program, candidates):
        self.code = Code(program)
        self._deeds = {action: Deed(program, self.code.frame, action) for action in candidates}
        # For each run its first row, what begins in it, and the missed numbers. The one that refuted last is the first.
        self._tried = []

    def plan(self, updates):
        """The plan of updates of the candidates."""
        return Plan([self._deeds[action] for action in updates])

    def include(self, run):
        """Includes a run; one that exceeds the limit counts as none."""
        entry, choices, missed = run
        course = Course(self.code.steps, choices)
        if not course.is_too_long:
            row = self.code.frame.row_of(entry)
            self._tried = [(row, self._needed(course.begun), missed)] + self._tried

    def refute(self, updates):
        """Whether one of the runs makes a use of a kept variable that is not right with these updates."""
        plan = self.plan(updates)
        at = 0
        while at < len(self._tried) and not self._is_stale(plan, self._tried[at]):
            at += 1
        if at == len(self._tried):
            return False
        self._tried = [self._tried[at]] + self._tried[:at] + self._tried[at + 1:]
        return True

    def _needed(self, begun):
        """What begins in a run, without the statements that change and read nothing, whatever the updates are."""
        spots = [deed.spot for deed in self._deeds.values()]
        return [(step, number) for step, number in begun
                if step.word in ("set", "input", "fresh") or step.reads or step.spot in spots]

    def _is_stale(self, plan, tried):
        row, begun, missed = tried
        done = Performance(self.code.frame, plan, row, missed)
        for step, number in begun:
            done.begin(step, number)
            if done.stale_uses_made:
                return True
        return False

"""Plans: what updates do at each place."""

from freshplaces.actions import size_of_action
from freshplaces.places import statement_at


class Deed:
    """What an action does: it computes the kept variable of a column by terms, or carries it with a factor."""

    def __init__(self, program, frame, action):
        word, name, place, kept = action
        self.spot = (name, place)
        self.renews = word == "fresh"
        self.column = frame.columns[kept]
        self.terms = frame.formulas[self.column]
        self.size = size_of_action(program, action)
        self.factor = 0
        if not self.renews:
            base = frame.columns[statement_at(program, name, place)[1]]
            self.factor = frame.factor_with(self.column, base)


class Plan:
    """The deeds of some actions, from places to lists in the order in which they are performed."""

    def __init__(self, deeds):
        self.renewing = {}
        self.carrying = {}
        for deed in sorted(deeds, key=lambda one: one.column):
            table = self.renewing if deed.renews else self.carrying
            table.setdefault(deed.spot, []).append(deed)


def plan_of(program, frame, updates):
    """The plan of updates."""
    return Plan([Deed(program, frame, action) for action in updates])

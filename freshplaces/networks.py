"""The network of a kept variable: points of a program, and how much can flow from one to another."""

from freshplaces.actions import cost_of_action, is_action
from freshplaces.errors import InvalidFormula, UnknownName
from freshplaces.expressions import variables_of
from freshplaces.places import running_names
from freshplaces.trees import called_by, expressions_of

STALE = ("stale",)
FRESH = ("fresh",)


def check_plain(program, kept):
    """Raises UnknownName or InvalidFormula for any value that is no kept variable over base variables only."""
    formula = program.formula(kept)
    if not all([variable in program.base for variable in variables_of(formula)]):
        raise InvalidFormula(kept)


class Network:
    """The pairs of points for a kept variable.

    bounds has for each pair how much can flow from the first point to the second one, None without a bound. actions
    has for each pair with a bound the action whose cost this is.
    """

    def __init__(self, program, kept, weights, start):
        self.bounds = {}
        self.actions = {}
        self._program = program
        self._kept = kept
        self._weights = weights
        if start == "any":
            self._join(STALE, ("begin", program.start))
        for name in running_names(program):
            point = ("begin", name)
            behind, _ = self._add_block(name, program.block(name), 0, point)
            self._join(behind, ("end", name))

    def _join(self, one, other):
        self.bounds[(one, other)] = None

    def _join_by(self, one, other, action):
        """Lets as much flow from one point to another one as an action costs."""
        self.bounds[(one, other)] = cost_of_action(self._program, action, self._weights)
        self.actions[(one, other)] = action

    def _add_block(self, name, block, place, ahead):
        """Adds a block that begins at a place; returns the point behind it, and the place behind it."""
        point = ahead
        for statement in block:
            self._join(point, ("come", name, place))
            point = ("gone", name, place)
            place = self._add_statement(name, statement, place)
        return (point, place)

    def _add_statement(self, name, statement, place):
        """Adds the pairs of a statement at a place, and returns the place behind it."""
        come, ready, gone = [(word, name, place) for word in ("come", "ready", "gone")]
        self._join_by(come, ready, ("fresh", name, place, self._kept))
        carry = ("carry", name, place, self._kept)
        if is_action(self._program, carry):
            self._join_by(STALE, gone, carry)
        if statement[0] not in ("call", "if") and statement != ("fresh", self._kept):
            self._join(ready, gone)
        if any([self._kept in variables_of(expression) for expression in expressions_of(statement)]):
            self._join(ready, FRESH)
        for other in called_by(statement, self._program.handlers):
            self._join(ready, ("begin", other))
            self._join(("end", other), gone)
        return self._add_blocks(name, statement, place, ready, gone)

    def _add_blocks(self, name, statement, place, ready, gone):
        behind = place + 1
        if statement[0] not in ("if", "while"):
            return behind
        for block in statement[1:]:
            ahead = ready if statement[0] == "if" else gone
            point, behind = self._add_block(name, block, behind, ahead)
            self._join(point, gone)
        return behind


def reached_points(pairs, first):
    """A dict that has as its keys the points that can be reached from a point by a list of pairs."""
    following = {}
    for one, other in pairs:
        following.setdefault(one, []).append(other)
    found = {first: True}
    waiting = [first]
    while waiting:
        point = waiting.pop()
        for other in following.get(point, []):
            if other not in found:
                found[other] = True
                waiting.append(other)
    return found

"""Codes: a procedure as one list of steps, in which each call stands as the steps of what it calls."""

from freshplaces.actions import SIZES_OF_CARRIES, size_of_fresh
from freshplaces.expressions import variables_of
from freshplaces.frames import Frame
from freshplaces.trees import expressions_of


class Step:
    """A statement, or one of the steps "choice", "loop", "jump" and "end", which are between statements.

    A choice stands behind an if or a pause. A loop stands behind a while, and is its choice before each time that
    its block is gone through. Both lead to one of their targets, a jump leads to its only one.
    """

    def __init__(self, word, spot):
        self.word = word
        self.spot = spot
        self.reads = []
        self.column = 0
        self.terms = ()
        self.carried = []
        self.size = 0
        self.targets = []


class Code:
    """The steps of a procedure, the start if none is named, in the order in which a pass goes through them."""

    def __init__(self, program, name=None):
        self.frame = Frame(program)
        self.steps = []
        self._program = program
        self._add_procedure(program.start if name is None else name)
        self._add("end", None)

    def _add(self, word, spot):
        step = Step(word, spot)
        self.steps.append(step)
        return step

    def _add_procedure(self, name):
        self._add_block(name, self._program.block(name), 0)

    def _add_block(self, name, block, place):
        """Adds the steps of a block that begins at a place, and returns the place behind it."""
        for statement in block:
            step = self._add(statement[0], (name, place))
            self._describe(step, statement)
            place = self._add_inside(name, statement, place + 1)
        return place

    def _describe(self, step, statement):
        """Tells a step what its statement does to the values."""
        for expression in expressions_of(statement):
            variables = variables_of(expression)
            step.terms = self.frame.terms_of(expression)
            step.reads = [self.frame.columns[kept] for kept in self._program.kept if kept in variables]
        if statement[0] == "fresh":
            step.column = self.frame.columns[statement[1]]
            step.terms = self.frame.formulas[step.column]
            step.size = size_of_fresh(self._program, statement[1])
        if statement[0] in SIZES_OF_CARRIES:
            step.column = self.frame.columns[statement[1]]
            carried = [self.frame.columns[kept] for kept in statement[-1]]
            step.carried = [(column, self.frame.factor_with(column, step.column)) for column in carried]
            step.size = SIZES_OF_CARRIES[statement[0]] * len(carried)

    def _add_inside(self, name, statement, place):
        """Adds the steps of what a statement leads to, and returns the place behind its blocks."""
        word = statement[0]
        if word == "call":
            self._add_procedure(statement[1])
        if word == "pause":
            self._add_pause()
        if word == "if":
            return self._add_if(name, statement, place)
        if word == "while":
            return self._add_while(name, statement, place)
        return place

    def _add_pause(self):
        choice = self._add("choice", None)
        first = []
        jumps = []
        for handler in self._program.handlers:
            first.append(len(self.steps))
            self._add_procedure(handler)
            jumps.append(self._add("jump", None))
        behind = len(self.steps)
        choice.targets = [behind] + first
        for jump in jumps:
            jump.targets = [behind]

    def _add_if(self, name, statement, place):
        _, block, other = statement
        choice = self._add("choice", None)
        first = len(self.steps)
        place = self._add_block(name, block, place)
        jump = self._add("jump", None)
        second = len(self.steps)
        place = self._add_block(name, other, place)
        choice.targets = [second, first]
        jump.targets = [len(self.steps)]
        return place

    def _add_while(self, name, statement, place):
        head = len(self.steps)
        loop = self._add("loop", None)
        place = self._add_block(name, statement[1], place)
        jump = self._add("jump", None)
        jump.targets = [head]
        loop.targets = [len(self.steps), head + 1]
        return place

"""Programs: what stands in their trees, and which procedures call each other."""

from freshplaces.checking import check_tree
from freshplaces.errors import UnknownName, UnknownProcedure
from freshplaces.expressions import variables_of
from freshplaces.texts import parse
from freshplaces.trees import called_by, expressions_of, extents_of, listed


class Program:
    """A program with a tree that is checked."""

    def __init__(self, tree):
        check_tree(tree)
        self._tree = tree
        self._formulas = dict(tree[1])
        self._blocks = dict(tree[3])
        self._listed = {name: listed(block) for name, block in tree[3]}
        self._extents = extents_of(tree)

    @classmethod
    def read(cls, text):
        """The program with a text."""
        return cls(parse(text))

    @property
    def base(self):
        """The tuple of the names of the base variables."""
        return self._tree[0]

    @property
    def kept(self):
        """The tuple of the names of the kept variables."""
        return tuple(self._formulas)

    @property
    def handlers(self):
        """The tuple of the names of the handlers."""
        return self._tree[2]

    @property
    def procedures(self):
        """The tuple of the names of the procedures."""
        return tuple(self._blocks)

    @property
    def start(self):
        """The name of the first procedure."""
        return self._tree[3][0][0]

    def __contains__(self, name):
        return isinstance(name, str) and name in self._blocks

    def __len__(self):
        return len(self._blocks)

    def __eq__(self, other):
        return isinstance(other, Program) and self._tree == other._tree

    def tree(self):
        """The tree of the program."""
        return self._tree

    def formula(self, kept):
        """The expression of the formula of a kept variable."""
        if not isinstance(kept, str) or kept not in self._formulas:
            raise UnknownName(kept)
        return self._formulas[kept]

    def block(self, name):
        """The block of a procedure."""
        self._check_procedure(name)
        return self._blocks[name]

    def statements(self, name):
        """Yields (place, statement) for each statement of a procedure, in the order of places."""
        self._check_procedure(name)
        for place, statement in enumerate(self._listed[name]):
            yield (place, statement)

    def callees(self, name):
        """The list of the names of the procedures that a procedure calls, in ascending order."""
        self._check_procedure(name)
        return sorted(self._called(name))

    def reached(self, name):
        """The list of the names of the procedures that a procedure reaches, in ascending order."""
        self._check_procedure(name)
        found = {}
        waiting = self._called(name)
        while waiting:
            other = waiting.pop()
            if other not in found:
                found[other] = True
                waiting.extend(self._called(other))
        return sorted(found)

    def extent(self, name):
        """The number of the statements of a procedure and of all that it calls, each time anew."""
        self._check_procedure(name)
        return self._extents[name]

    def uses(self, name):
        """The list of the uses in a procedure: tuples (procedure, place, kept)."""
        self._check_procedure(name)
        found = []
        for place, statement in enumerate(self._listed[name]):
            for expression in expressions_of(statement):
                variables = variables_of(expression)
                found.extend([(name, place, kept) for kept in self._formulas if kept in variables])
        return found

    def replaced(self, name, block):
        """The program with a block as that of a procedure, which is a new one at the end if there is none."""
        base, kept, handlers, procedures = self._tree
        if name not in self:
            return Program((base, kept, handlers, procedures + ((name, block),)))
        changed = [(other, block if other == name else old) for other, old in procedures]
        return Program((base, kept, handlers, tuple(changed)))

    def _check_procedure(self, name):
        if name not in self:
            raise UnknownProcedure(name)

    def _called(self, name):
        """The list of the different names of the procedures that a procedure calls."""
        found = {}
        for statement in self._listed[name]:
            for other in called_by(statement, self._tree[2]):
                found[other] = True
        return list(found)

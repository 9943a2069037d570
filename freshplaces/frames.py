"""The values of a program as rows: 1, the values of the base variables, and those of the kept variables.

Terms are tuples of pairs (column, factor). Column 0 is that of the 1, so terms have no constant apart from these.
"""

from freshplaces.expressions import unfolded_formulas
from freshplaces.kinds import is_whole


class Frame:
    """Which column belongs to each variable of a program, and what is computed from the columns."""

    def __init__(self, program):
        names = program.base + program.kept
        formulas = unfolded_formulas(program.tree()[1])
        self.names = ("",) + names
        self.columns = {name: at + 1 for at, name in enumerate(names)}
        self.many_base = len(program.base)
        self.many = len(names)
        self.kept_columns = [self.columns[name] for name in program.kept]
        self.formulas = {self.columns[name]: self.terms_of(program.formula(name)) for name in program.kept}
        self.unfolded = {self.columns[name]: self.terms_of(formulas[name]) for name in program.kept}
        self.rights = {column: self.unfolded[column] + ((column, -1),) for column in self.kept_columns}

    def terms_of(self, expression):
        """The terms of an expression."""
        constant, terms = expression
        found = [(self.columns[variable], factor) for variable, factor in terms]
        return tuple([(0, constant)] + found if constant != 0 else found)

    def factor_with(self, kept, base):
        """The factor with which the kept variable of a column depends on the base variable of another one."""
        return dict(self.unfolded[kept])[base]

    def is_right(self, column, row):
        """Whether the kept variable of a column is right with the values of a row."""
        return valued(self.rights[column], row) == 0

    def is_entry(self, entry):
        """Whether any value is an entry."""
        if not isinstance(entry, tuple) or not all([is_whole(number) for number in entry]):
            return False
        return len(entry) in (self.many_base, self.many)

    def length_of_entries(self, start):
        """How many values an entry has for a start."""
        return self.many_base if start == "right" else self.many

    def row_of(self, entry):
        """The values with which a run begins."""
        if len(entry) == self.many:
            return (1,) + entry
        row = (1,) + entry + (0,) * (self.many - self.many_base)
        for column in self.kept_columns:
            row = renewed(row, column, self.formulas[column])
        return row

    def first_entries(self, start):
        """Entries for a start whose values span those of all of them."""
        length = self.length_of_entries(start)
        units = [tuple([1 if at == place else 0 for at in range(length)]) for place in range(length)]
        return [(0,) * length] + units


def valued(terms, row):
    """The value of terms."""
    total = 0
    for column, factor in terms:
        total += factor * row[column]
    return total


def renewed(row, column, terms):
    """The row in which the number of a column is that of terms."""
    return row[:column] + (valued(terms, row),) + row[column + 1:]


def assigned(row, column, number, carried):
    """The row with a number in a column, whose change is carried to others: a list of pairs (column, factor)."""
    found = list(row)
    found[column] = number
    for other, factor in carried:
        found[other] += factor * (number - row[column])
    return tuple(found)

"""The unfolded formulas of kept variables."""

from freshplaces.errors import UnknownName
from freshplaces.expressions import unfolded_formulas, variables_of


def unfolded(program, name):
    """The unfolded formula of a kept variable, an expression."""
    formulas = unfolded_formulas(program.tree()[1])
    if not isinstance(name, str) or name not in formulas:
        raise UnknownName(name)
    return formulas[name]


def factor_of(program, name, base):
    """The factor with which a kept variable depends on a base variable; 0 if it does not."""
    _, terms = unfolded(program, name)
    if not isinstance(base, str) or base not in program.base:
        raise UnknownName(base)
    return dict(terms).get(base, 0)


def sources(program, name):
    """The tuple of the base variables on which a kept variable depends, in the order of the program."""
    variables = variables_of(unfolded(program, name))
    return tuple([base for base in program.base if base in variables])

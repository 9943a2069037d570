"""Where kept variables can be carried along, and what is added to them there."""

from freshplaces.errors import InvalidCarry, UnknownProcedure
from freshplaces.expressions import expression_of
from freshplaces.formulas import factor_of, unfolded
from freshplaces.places import is_place, statement_at

ASSIGNING = ("set", "input")


def changing(program, kept):
    """The list of the tuples (procedure, place, factor) of all that changes what a kept variable depends on."""
    factors = dict(unfolded(program, kept)[1])
    found = []
    for name in program.procedures:
        for place, statement in program.statements(name):
            if statement[0] in ASSIGNING and statement[1] in factors:
                found.append((name, place, factors[statement[1]]))
    return found


def change_at(program, name, place, kept):
    """What carrying a kept variable at a place adds to it: a pair (expression, factor of the value taken)."""
    if name not in program:
        raise UnknownProcedure(name)
    factor = _factor_at(program, name, place, kept)
    if factor == 0:
        raise InvalidCarry(place)
    statement = statement_at(program, name, place)
    variable = statement[1]
    if statement[0] == "input":
        return (expression_of(0, [(variable, -factor)]), factor)
    constant, terms = statement[2]
    pairs = [(other, factor * times) for other, times in terms]
    return (expression_of(factor * constant, pairs + [(variable, -factor)]), 0)


def all_carried(program, kept):
    """The updates that carry a kept variable wherever it is not carried yet."""
    found = []
    for name, place, _ in changing(program, kept):
        if kept not in statement_at(program, name, place)[-1]:
            found.append(("carry", name, place, kept))
    return tuple(sorted(found))


def _factor_at(program, name, place, kept):
    """The factor of the variable that a statement assigns; 0 if there is none, or any value is no place."""
    if not is_place(program, name, place) or not isinstance(kept, str) or kept not in program.kept:
        return 0
    statement = statement_at(program, name, place)
    if statement[0] not in ASSIGNING:
        return 0
    return factor_of(program, kept, statement[1])

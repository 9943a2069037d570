"""Whether a tree is that of a program."""

from freshplaces.errors import DuplicateName, InvalidCall, InvalidCarry, InvalidTree, TooLarge, UnknownName
from freshplaces.expressions import unfolded_formulas, variables_of
from freshplaces.trees import called_by, depth_of, expressions_of, extents_of, is_tree, listed, parts_of

MOST_BASE = 4
MOST_KEPT = 3
MOST_HANDLERS = 3
MOST_PROCEDURES = 6
MOST_STATEMENTS = 60
MOST_NESTING = 6
MOST_NUMBER = 999999999999
MOST_EXTENT = 400


def check_tree(tree):
    """Raises the first error of any value that is not the tree of a program."""
    if not is_tree(tree):
        raise InvalidTree(tree)
    _check_sizes(tree)
    _check_different(tree)
    _check_named(tree)
    _check_statements(tree)
    if max(extents_of(tree).values()) > MOST_EXTENT:
        raise TooLarge("calls")


def _check_sizes(tree):
    base, kept, handlers, procedures = tree
    sizes = [
        ("base", len(base), MOST_BASE),
        ("kept", len(kept), MOST_KEPT),
        ("handlers", len(handlers), MOST_HANDLERS),
        ("procedures", len(procedures), MOST_PROCEDURES),
        ("statements", sum([len(listed(block)) for _, block in procedures]), MOST_STATEMENTS),
        ("nesting", max([depth_of(block) for _, block in procedures]), MOST_NESTING),
        ("numbers", max([abs(number) for number in _numbers_of(tree)] + [0]), MOST_NUMBER),
    ]
    for word, size, most in sizes:
        if size > most:
            raise TooLarge(word)


def _numbers_of(tree):
    """The list of all constants and factors of a tree."""
    _, kept, _, procedures = tree
    expressions = [formula for _, formula in kept]
    for _, block in procedures:
        for statement in listed(block):
            expressions.extend(expressions_of(statement))
    constants = [constant for constant, _ in expressions]
    return constants + [factor for _, terms in expressions for _, factor in terms]


def _check_different(tree):
    base, kept, handlers, procedures = tree
    names = list(base) + [name for name, _ in kept] + [name for name, _ in procedures]
    for group in (names, list(handlers)):
        for at, name in enumerate(group):
            if name in group[:at]:
                raise DuplicateName(name)


def _check_named(tree):
    """Whether formulas and handlers name only what there is."""
    base, kept, handlers, procedures = tree
    before = list(base)
    for name, formula in kept:
        for variable in variables_of(formula):
            if variable not in before:
                raise UnknownName(variable)
        before.append(name)
    names = [name for name, _ in procedures]
    for handler in handlers:
        if handler not in names:
            raise UnknownName(handler)


def _check_statements(tree):
    base, kept, handlers, procedures = tree
    names = [name for name, _ in procedures]
    formulas = unfolded_formulas(kept)
    known = {
        "base": list(base),
        "kept": list(formulas),
        "carried": list(formulas),
        "expression": list(base) + list(formulas),
        "procedure": names,
    }
    for index, (_, block) in enumerate(procedures):
        for place, statement in enumerate(listed(block)):
            _check_known(statement, known)
            if not all([name in names[index + 1:] for name in called_by(statement, handlers)]):
                raise InvalidCall(place)
            if not _is_carried_well(statement, formulas):
                raise InvalidCarry(place)


def _check_known(statement, known):
    """Whether the names in the tuple of a statement stand for something that there is."""
    for kind, part in parts_of(statement):
        for name in _names_in(kind, part):
            if name not in known[kind]:
                raise UnknownName(name)


def _names_in(kind, part):
    """The list of the names in a part of a statement, in their order, without those in blocks."""
    if kind == "block":
        return []
    if kind == "expression":
        return variables_of(part)
    return list(part) if kind == "carried" else [part]


def _is_carried_well(statement, formulas):
    """Whether a statement carries different kept variables, all of which depend on its variable."""
    if statement[0] not in ("set", "input"):
        return True
    variable = statement[1]
    carried = statement[-1]
    depending = [name for name in carried if variable in variables_of(formulas[name])]
    return len(depending) == len(carried) and len(set(carried)) == len(carried)

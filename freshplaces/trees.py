"""The form of trees, and what stands in their blocks."""

from freshplaces.kinds import is_whole
from freshplaces.texts import MOST_AROUND, is_name

# What the parts of each statement are, behind its word. "base", "kept" and "procedure" are names of such things.
PARTS = {
    "set": ("base", "expression", "carried"),
    "input": ("base", "carried"),
    "tell": ("expression",),
    "fresh": ("kept",),
    "call": ("procedure",),
    "pause": (),
    "if": ("block", "block"),
    "while": ("block",),
}


def is_tree(value):
    """Whether any value has the form of a tree."""
    if not isinstance(value, tuple) or len(value) != 4:
        return False
    base, kept, handlers, procedures = value
    if not _are_names(base) or not isinstance(kept, tuple) or not all([_is_formula(pair) for pair in kept]):
        return False
    if not _are_names(handlers) or not isinstance(procedures, tuple):
        return False
    return len(base) > 0 and len(procedures) > 0 and all([_is_procedure(pair) for pair in procedures])


def is_expression(value):
    """Whether any value has the form of an expression."""
    if not _is_pair(value) or not is_whole(value[0]) or not isinstance(value[1], tuple):
        return False
    terms = value[1]
    if not all([_is_term(term) for term in terms]):
        return False
    return all([one[0] < other[0] for one, other in zip(terms, terms[1:])])


def is_block(value, around=0):
    """Whether any value has the form of a block that stands inside so many others."""
    if around >= MOST_AROUND or not isinstance(value, tuple):
        return False
    return all([_is_statement(statement, around) for statement in value])


def listed(block):
    """The list of all statements of a block, in the order of their places."""
    found = []
    for statement in block:
        found.append(statement)
        for inner in blocks_of(statement):
            found.extend(listed(inner))
    return found


def blocks_of(statement):
    """The list of the blocks of a statement."""
    return [part for kind, part in parts_of(statement) if kind == "block"]


def parts_of(statement):
    """The list of the pairs (kind, part) of a statement, behind its word."""
    return list(zip(PARTS[statement[0]], statement[1:]))


def depth_of(block):
    """How deep blocks are nested in a block; it is one itself."""
    return 1 + max([0] + [depth_of(inner) for statement in block for inner in blocks_of(statement)])


def expressions_of(statement):
    """The list of the expressions of a statement: one or none."""
    return [part for kind, part in parts_of(statement) if kind == "expression"]


def called_by(statement, handlers):
    """The list of the names of the procedures that a statement itself calls."""
    if statement[0] == "pause":
        return list(handlers)
    return [part for kind, part in parts_of(statement) if kind == "procedure"]


def extents_of(tree):
    """A dict from each procedure to its extent; what a procedure calls stands behind it."""
    _, _, handlers, procedures = tree
    extents = {}
    for name, block in reversed(procedures):
        inside = listed(block)
        called = [other for statement in inside for other in called_by(statement, handlers)]
        extents[name] = len(inside) + sum([extents[other] for other in called])
    return extents


def _is_pair(value):
    return isinstance(value, tuple) and len(value) == 2


def _are_names(value):
    return isinstance(value, tuple) and all([is_name(name) for name in value])


def _is_formula(value):
    return _is_pair(value) and is_name(value[0]) and is_expression(value[1])


def _is_procedure(value):
    return _is_pair(value) and is_name(value[0]) and is_block(value[1])


def _is_term(value):
    return _is_pair(value) and is_name(value[0]) and is_whole(value[1]) and value[1] != 0


def _is_statement(value, around):
    """Whether any value has the form of a statement of a block that stands inside so many others."""
    if not isinstance(value, tuple) or len(value) == 0:
        return False
    word = value[0]
    if not isinstance(word, str) or word not in PARTS or len(value) != len(PARTS[word]) + 1:
        return False
    return all([_is_part(kind, part, around) for kind, part in parts_of(value)])


def _is_part(kind, part, around):
    if kind == "block":
        return is_block(part, around + 1)
    if kind == "expression":
        return is_expression(part)
    if kind == "carried":
        return _are_names(part)
    return is_name(part)

"""Actions, which bring kept variables up to date, and what they cost."""

from freshplaces.errors import InvalidAction, InvalidWeights
from freshplaces.expressions import substituted, unfolded_formulas
from freshplaces.formulas import factor_of
from freshplaces.kinds import is_whole
from freshplaces.places import is_place, is_spot, running_names, statement_at
from freshplaces.programs import Program

SIZES_OF_CARRIES = {"set": 2, "input": 3}


def is_action(program, value):
    """Whether any value is an action of a program."""
    if not isinstance(value, tuple) or len(value) != 4:
        return False
    word, name, place, kept = value
    if not isinstance(word, str) or not isinstance(kept, str) or kept not in program.kept:
        return False
    if name not in program or not is_place(program, name, place):
        return False
    return word == "fresh" or (word == "carry" and _may_carry(program, name, place, kept))


def check_updates(program, updates):
    """Raises InvalidAction for any value that is no updates of a program."""
    if not isinstance(updates, tuple):
        raise InvalidAction(updates)
    for at, action in enumerate(updates):
        if not is_action(program, action) or (at > 0 and action <= updates[at - 1]):
            raise InvalidAction(action)


def check_weights(program, weights):
    """Raises InvalidWeights for any value that is neither None nor weights of a program."""
    if weights is None:
        return
    if not isinstance(weights, dict):
        raise InvalidWeights(weights)
    for spot, weight in weights.items():
        if not is_spot(program, spot) or not is_whole(weight) or weight < 0:
            raise InvalidWeights(weights)


def candidates(program):
    """The list of all actions at places of the start and of the procedures that it reaches, in ascending order."""
    found = []
    for name in running_names(program):
        for place, _ in program.statements(name):
            actions = [(word, name, place, kept) for word in ("carry", "fresh") for kept in program.kept]
            found.extend([action for action in actions if is_action(program, action)])
    return sorted(found)


def size_of_fresh(program, kept):
    """The size of computing a kept variable anew."""
    return 1 + len(program.formula(kept)[1])


def size_of_action(program, action):
    """The size of an action of a program."""
    if not is_action(program, action):
        raise InvalidAction(action)
    word, name, place, kept = action
    if word == "fresh":
        return size_of_fresh(program, kept)
    return SIZES_OF_CARRIES[statement_at(program, name, place)[0]]


def cost_of_action(program, action, weights):
    """The size of an action times the weight of its place."""
    _, name, place, _ = action
    weight = 1 if weights is None else weights.get((name, place), 1)
    return size_of_action(program, action) * weight


def cost(program, updates, weights=None):
    """The cost of updates."""
    check_updates(program, updates)
    check_weights(program, weights)
    return sum([cost_of_action(program, action, weights) for action in updates])


def updated(program, updates):
    """The program in which updates are written."""
    check_updates(program, updates)
    base, kept, handlers, procedures = program.tree()
    written = [(name, _written(program, updates, name, block, 0)[0]) for name, block in procedures]
    return Program((base, kept, handlers, tuple(written)))


def anew(program):
    """The program without kept variables, in which each use is computed anew."""
    base, kept, handlers, procedures = program.tree()
    formulas = unfolded_formulas(kept)
    changed = [(name, _block_anew(block, formulas)) for name, block in procedures]
    return Program((base, (), handlers, tuple(changed)))


def _may_carry(program, name, place, kept):
    """Whether the statement at a place does not carry a kept variable yet, but can."""
    statement = statement_at(program, name, place)
    if statement[0] not in SIZES_OF_CARRIES or kept in statement[-1]:
        return False
    return factor_of(program, kept, statement[1]) != 0


def _written(program, updates, name, block, place):
    """A block that begins at a place, with the updates written, and the place behind it."""
    found = []
    for statement in block:
        fresh = [kept for kept in program.kept if ("fresh", name, place, kept) in updates]
        found.extend([("fresh", kept) for kept in fresh])
        statement, place = _written_statement(program, updates, name, statement, place)
        found.append(statement)
    return (tuple(found), place)


def _written_statement(program, updates, name, statement, place):
    """A statement at a place, with the updates written, and the place behind it."""
    word = statement[0]
    if word in SIZES_OF_CARRIES:
        carried = [kept for kept in program.kept
                   if kept in statement[-1] or ("carry", name, place, kept) in updates]
        return (statement[:-1] + (tuple(carried),), place + 1)
    if word not in ("if", "while"):
        return (statement, place + 1)
    blocks = []
    place = place + 1
    for block in statement[1:]:
        changed, place = _written(program, updates, name, block, place)
        blocks.append(changed)
    return ((word,) + tuple(blocks), place)


def _block_anew(block, formulas):
    return tuple([_statement_anew(statement, formulas) for statement in block if statement[0] != "fresh"])


def _statement_anew(statement, formulas):
    word = statement[0]
    if word == "set":
        _, variable, expression, _ = statement
        return ("set", variable, substituted(expression, formulas), ())
    if word == "input":
        return ("input", statement[1], ())
    if word == "tell":
        return ("tell", substituted(statement[1], formulas))
    if word in ("if", "while"):
        return (word,) + tuple([_block_anew(block, formulas) for block in statement[1:]])
    return statement

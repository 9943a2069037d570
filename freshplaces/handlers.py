"""What handlers cost: which actions are inside them, and which uses they make stale."""

from freshplaces.actions import check_updates, cost
from freshplaces.cheapest import cheapest
from freshplaces.errors import UnknownName
from freshplaces.programs import Program
from freshplaces.states import States


def parted(program, updates):
    """A pair of updates: those inside of handlers or of what they reach, and the others."""
    check_updates(program, updates)
    names = _inside(program)
    inside = tuple([action for action in updates if action[1] in names])
    outside = tuple([action for action in updates if action[1] not in names])
    return (inside, outside)


def prices(program, candidates, *, weights=None, start="right"):
    """A dict from "all", "inside" and "outside" to (cost, updates) of the cheapest of these candidates, or None."""
    found = {"all": _price(program, candidates, weights, start)}
    inside, outside = parted(program, candidates)
    found["inside"] = _price(program, inside, weights, start)
    found["outside"] = _price(program, outside, weights, start)
    return found


def without(program, name):
    """The program that does not name this procedure behind handlers."""
    if not isinstance(name, str) or name not in program.handlers:
        raise UnknownName(name)
    base, kept, handlers, procedures = program.tree()
    return Program((base, kept, tuple([handler for handler in handlers if handler != name]), procedures))


def blamed(program, updates=(), *, start="right"):
    """The list of the tuples (procedure, place, kept, handler) of uses that can be stale, but not without a handler."""
    stale = States(program, updates, start).stale_uses()
    others = [(handler, States(without(program, handler), updates, start)) for handler in program.handlers]
    found = []
    for name, place, kept in stale:
        found.extend([(name, place, kept, handler) for handler, states in others if states.is_right(name, place, kept)])
    return found


def _inside(program):
    """The list of the handlers and of the procedures that they reach."""
    reached = [name for handler in program.handlers for name in program.reached(handler)]
    return list(program.handlers) + reached


def _price(program, candidates, weights, start):
    updates, _ = cheapest(program, candidates, weights=weights, start=start)
    return None if updates is None else (cost(program, updates, weights), updates)

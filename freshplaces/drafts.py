"""Drafts: a program, a pool of actions and weights, and the drafts to which events lead."""

from freshplaces.actions import is_action
from freshplaces.cheapest import MOST_CANDIDATES
from freshplaces.errors import InvalidAction, InvalidEvent, InvalidWeights, TooMany
from freshplaces.kinds import is_whole
from freshplaces.places import is_spot

# How many parts an event with each word has.
LENGTHS_OF_EVENTS = {"edit": 3, "offer": 2, "withdraw": 2, "weigh": 4, "back": 1}


class Draft:
    """A program, a pool of actions and weights; best are the cheapest updates of the pool, None if none are right.

    An event does not change a draft, but leads to another one. That one keeps as earlier the draft to which a back
    leads; it is None where there is nothing to take back.
    """

    def __init__(self, source, offered, given, earlier):
        self.source = source
        self.offered = offered
        self.given = given
        self.earlier = earlier
        self.best = None


def is_event(value):
    """Whether any value is an event by its form."""
    if not isinstance(value, tuple) or len(value) == 0:
        return False
    word = value[0]
    if not isinstance(word, str) or word not in LENGTHS_OF_EVENTS or len(value) != LENGTHS_OF_EVENTS[word]:
        return False
    return word != "weigh" or (is_whole(value[3]) and value[3] >= 0)


def draft_behind(draft, event):
    """The draft to which any value as an event leads, with best still to be found unless the event is a back."""
    if not is_event(event):
        raise InvalidEvent(event)
    word = event[0]
    if word == "back":
        if draft.earlier is None:
            raise InvalidEvent(event)
        return draft.earlier
    if word == "edit":
        return _edited(draft, event[1], event[2])
    if word == "weigh":
        return _weighed(draft, event)
    pool = _pool_behind(draft, word, event[1])
    return Draft(draft.source, pool, draft.given, draft)


def word_between(before, updates):
    """What is to be told of updates that are the cheapest behind an event, where others were the cheapest before."""
    if before == updates:
        return "same"
    return "none" if updates is None else "other"


def _edited(draft, name, block):
    program = draft.source.replaced(name, block)
    pool = tuple([action for action in draft.offered if is_action(program, action)])
    weights = {spot: weight for spot, weight in draft.given.items() if is_spot(program, spot)}
    return Draft(program, pool, weights, draft)


def _weighed(draft, event):
    _, name, place, weight = event
    if not is_spot(draft.source, (name, place)):
        raise InvalidWeights(event)
    weights = {spot: other for spot, other in draft.given.items()}
    weights[(name, place)] = weight
    return Draft(draft.source, draft.offered, weights, draft)


def _pool_behind(draft, word, action):
    """The pool to which an action is added, or from which it is taken."""
    pool = draft.offered
    if not is_action(draft.source, action) or (action in pool) != (word == "withdraw"):
        raise InvalidAction(action)
    if word == "withdraw":
        return tuple([other for other in pool if other != action])
    if len(pool) == MOST_CANDIDATES:
        raise TooMany("candidates")
    return tuple(sorted(pool + (action,)))

"""Sessions, which keep the cheapest updates of a program while events change it."""

from freshplaces.actions import cost
from freshplaces.cheapest import cheapest
from freshplaces.drafts import Draft, draft_behind, word_between
from freshplaces.errors import FreshError, InvalidTree
from freshplaces.journals import recovered
from freshplaces.programs import Program
from freshplaces.states import States


class Session:
    """Keeps a program, a pool of actions, weights, and the cheapest updates of the pool that make the program right."""

    def __init__(self, program, pool=(), *, start="right"):
        draft = Draft(program, pool, {}, None)
        draft.best = _best(draft, start)
        self._start = start
        self._first = draft
        self._draft = draft
        self._events = ()

    @classmethod
    def replayed(cls, program, pool, events, *, start="right"):
        """The session that results if a list of events is performed."""
        session = cls(program, pool, start=start)
        for event in events:
            session.perform(event)
        return session

    @classmethod
    def recovered(cls, program, pool, text, *, start="right"):
        """The session in which the events that a journal still has are performed, up to the first refused one."""
        events = recovered(text)
        session = cls(program, pool, start=start)
        for event in events:
            try:
                session.perform(event)
            except FreshError:
                break
        return session

    @property
    def program(self):
        """The program."""
        return self._draft.source

    @property
    def pool(self):
        """The pool of actions, as updates."""
        return self._draft.offered

    @property
    def updates(self):
        """The first cheapest updates of the pool with which all uses are right; None if there are none."""
        return self._draft.best

    def weights(self):
        """The dict of the weights that were given."""
        return {spot: weight for spot, weight in self._draft.given.items()}

    def cost(self):
        """The cost of the updates; None if there are none."""
        draft = self._draft
        return None if draft.best is None else cost(draft.source, draft.best, draft.given)

    def perform(self, event):
        """Performs an event, and returns "same", "none" or "other" for what becomes of the updates."""
        before = self._draft
        draft = draft_behind(before, event)
        if event[0] != "back":
            draft.best = _best(draft, self._start)
        self._draft = draft
        self._events = self._events + (event,)
        return word_between(before.best, draft.best)

    def journal(self):
        """The list of all events that were performed."""
        return list(self._events)

    def trial(self, events, call):
        """What call() returns behind a list of events; afterwards the session is as it was before."""
        draft = self._draft
        journal = self._events
        try:
            for event in events:
                self.perform(event)
            return call()
        finally:
            self._draft, self._events = draft, journal

    def beginning(self):
        """The tuple (program, pool, start) with which the session began."""
        return (self._first.source, self._first.offered, self._start)


def unchanged(old, new, *, start="right"):
    """The list of the pairs (procedure, place) of a new program where statement and space are as in the old one."""
    if not isinstance(new, Program) or old.tree()[:2] != new.tree()[:2]:
        raise InvalidTree(new)
    before = States(old, (), start)
    after = States(new, (), start)
    found = []
    for name in new.procedures:
        known = dict(old.statements(name)) if name in old else {}
        for place, statement in new.statements(name):
            if known.get(place) == statement and before.space(name, place) == after.space(name, place):
                found.append((name, place))
    return found


def _best(draft, start):
    """The cheapest updates of the pool of a draft, with its weights."""
    updates, _ = cheapest(draft.source, draft.offered, weights=draft.given, start=start)
    return updates

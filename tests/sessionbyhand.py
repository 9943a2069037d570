"""Sessions as the document describes them: all that counts is replayed from the beginning, and every set is tried."""

import itertools

from freshplaces.actions import cost, is_action
from freshplaces.errors import FreshError
from freshplaces.programs import Program
from freshplaces.states import is_right
from programs_drawn import Drawing


def price_by_hand(program, some, weights=None, start='right'):
    """The pair (cost, updates) of the first cheapest updates of some actions, found by going over all sets."""
    ways = [chosen for many in range(len(some) + 1) for chosen in itertools.combinations(range(len(some)), many)]
    ordered = sorted((cost(program, tuple(some[at] for at in chosen), weights), chosen) for chosen in ways)
    for total, chosen in ordered:
        updates = tuple(some[at] for at in chosen)
        if is_right(program, updates, start):
            return (total, updates)
    return None


class SessionByHand:
    def __init__(self, program, pool=(), start='right'):
        self.first, self.start, self.events, self.counting = (program, pool), start, [], []
        self.refresh()

    def refresh(self):
        self.program, pool = self.first
        self.pool, self.given = sorted(pool), {}
        for event in self.counting:
            self.change(event)
        self.price = price_by_hand(self.program, tuple(self.pool), self.given, self.start)

    def change(self, event):
        if event[0] == 'edit':
            base, kept, handlers, procedures = self.program.tree()
            if event[1] in self.program:
                procedures = tuple((name, event[2] if name == event[1] else block) for name, block in procedures)
            else:
                procedures += (event[1:],)
            self.program = Program((base, kept, handlers, procedures))
            self.pool = [action for action in self.pool if is_action(self.program, action)]
            self.given = {(name, place): number for (name, place), number in self.given.items()
                          if name in self.program and place < len(list(self.program.statements(name)))}
        elif event[0] == 'offer':
            self.pool = sorted(self.pool + [event[1]])
        elif event[0] == 'withdraw':
            self.pool.remove(event[1])
        else:
            self.given[event[1:3]] = event[3]

    def perform(self, event):
        """Performs an event that can be performed."""
        before = self.updates()
        self.events.append(event)
        if event == ('back',):
            self.counting.pop()
        else:
            self.counting.append(event)
        self.refresh()
        if self.updates() == before:
            return 'same'
        return 'none' if self.updates() is None else 'other'

    def updates(self):
        return None if self.price is None else self.price[1]

    def told(self):
        """All that a session tells."""
        return (self.program, tuple(self.pool), self.updates(), self.given, None if self.price is None else self.price[0],
                self.events)


def told_by(session):
    """All that a session of the package tells."""
    return (session.program, session.pool, session.updates, session.weights(), session.cost(), session.journal())


class DrawnEvents:
    """Draws programs over the same variables, and events that sessions of these can perform."""

    def __init__(self, draws, **wanted):
        self.draws, self.drawing = draws, Drawing(draws, **wanted)

    def program(self, most_extent=15, procedures=4):
        while True:
            try:
                program = self.drawing.program(procedures)
            except FreshError:
                continue
            if program.extent(program.start) <= most_extent:
                return program

    def edit(self, program, most_extent=15):
        """An edit of one procedure, or a procedure more."""
        while True:
            name = self.draws.one_of(program.procedures + ('x',))
            later = program.procedures[program.procedures.index(name) + 1:] if name in program else ()
            handlers = bool(program.handlers) and all(handler in later for handler in program.handlers)
            block = self.drawing.block(later, handlers)
            try:
                new = program.replaced(name, block)
            except FreshError:
                continue
            if new.extent(new.start) <= most_extent:
                return ('edit', name, block)

    def event(self, session, most_pool=5):
        """An event that a session by hand can perform."""
        while True:
            word = self.draws.one_of(['edit', 'offer', 'offer', 'offer', 'withdraw', 'weigh', 'weigh', 'back', 'back'])
            spots = [(name, place) for name in session.program.procedures for place, _ in session.program.statements(name)]
            every = [(verb, name, place, kept) for name, place in spots for kept in session.program.kept
                     for verb in ('carry', 'fresh') if is_action(session.program, (verb, name, place, kept))]
            free = [action for action in every if action not in session.pool]
            if word == 'edit':
                return self.edit(session.program)
            if word == 'offer' and free and len(session.pool) < most_pool:
                return (word, self.draws.one_of(free))
            if word == 'withdraw' and session.pool:
                return (word, self.draws.one_of(session.pool))
            if word == 'weigh' and spots:
                used = [action[1:3] for action in session.pool] if self.draws.below(2) else []
                return (word,) + self.draws.one_of(used or spots) + (self.draws.one_of([0, 1, 2, 5]),)
            if word == 'back' and session.counting:
                return (word,)

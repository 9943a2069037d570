"""Runs of programs as the document describes them, statement by statement, apart from how the package does it."""

import itertools


class NoMoreChoices(Exception):
    """A run in which no choice may be added to the given ones needs one more."""


class TooLong(Exception):
    pass


class ByHand:
    """One run, and all that can be seen of it.

    arrivals has a tuple (name, place, row, choices, missed) for each time that the run arrives at a place. If strict,
    the run stops where it would take a choice beyond the given ones, and ways tells between how many things.
    """

    def __init__(self, program, updates, entry, choices, missed=(), strict=False, limit=4000):
        self.program, self.updates, self.missed = program, updates, missed
        self.given, self.strict, self.limit = list(choices), strict, limit
        self.blocks = dict(program.tree()[3])
        self.formulas = dict(program.tree()[1])
        self.values = dict(zip(program.base + program.kept, entry))
        if len(entry) == len(program.base):
            for kept in program.kept:
                self.values[kept] = self.correct(kept)
        self.taken, self.told, self.stale, self.visits, self.work, self.arrivals = [], [], [], {}, 0, []
        self.performed, self.begun, self.ways, self.ended = 0, 0, None, False
        try:
            self.procedure(program.start)
            self.ended = True
        except NoMoreChoices:
            pass

    def row(self):
        return (1,) + self.state()

    def state(self):
        return tuple(self.values[name] for name in self.program.base + self.program.kept)

    def evaluate(self, expression):
        return expression[0] + sum(factor * self.values[name] for name, factor in expression[1])

    def correct(self, name):
        """What a variable would be if all kept variables were right."""
        if name in self.program.base:
            return self.values[name]
        constant, terms = self.formulas[name]
        return constant + sum(factor * self.correct(other) for other, factor in terms)

    def choose(self, many):
        """Takes one of so many things; 0 stands for any integer."""
        if len(self.taken) == len(self.given):
            self.ways = many
            if self.strict:
                raise NoMoreChoices
            self.given.append(0)
        choice = self.given[len(self.taken)]
        self.taken.append(choice)
        return choice % many if many else choice

    def performs(self, action):
        if action not in self.updates:
            return False
        self.performed += 1
        return self.performed - 1 not in self.missed

    def procedure(self, name):
        self.block(name, self.blocks[name], 0)

    def block(self, name, block, place):
        for statement in block:
            place = self.statement(name, statement, place)

    def statement(self, name, statement, place):
        for kept in self.program.kept:
            if self.performs(('fresh', name, place, kept)):
                self.renew(kept)
        self.begun += 1
        if self.begun > self.limit:
            raise TooLong
        self.visits[name, place] = self.visits.get((name, place), 0) + 1
        missed_now = tuple(number for number in self.missed if number < self.performed)
        self.arrivals.append((name, place, self.row(), tuple(self.taken), missed_now))
        word = statement[0]
        if word in ('set', 'tell'):
            reads = dict(statement[-1 if word == 'tell' else 2][1])
            self.stale += [(name, place, kept) for kept in self.program.kept
                           if kept in reads and self.values[kept] != self.correct(kept)]
        if word in ('if', 'while'):
            return self.nested(name, statement, place + 1)
        if word == 'set':
            self.assign(name, place, statement[1], self.evaluate(statement[2]), statement[3], 2)
        elif word == 'input':
            self.assign(name, place, statement[1], self.choose(0), statement[2], 3)
        elif word == 'tell':
            self.told.append(self.evaluate(statement[1]))
        elif word == 'fresh':
            self.renew(statement[1])
        elif word == 'call':
            self.procedure(statement[1])
        elif word == 'pause':
            handler = self.choose(1 + len(self.program.handlers))
            if handler:
                self.procedure(self.program.handlers[handler - 1])
        return place + 1

    def nested(self, name, statement, place):
        first = statement[1]
        behind_first = place + self.count(first)
        if statement[0] == 'while':
            while self.choose(2):
                self.block(name, first, place)
            return behind_first
        if self.choose(2):
            self.block(name, first, place)
        else:
            self.block(name, statement[2], behind_first)
        return behind_first + self.count(statement[2])

    def count(self, block):
        return sum(1 + sum(self.count(part) for part in statement[1:] if statement[0] in ('if', 'while'))
                   for statement in block)

    def renew(self, kept):
        self.values[kept] = self.evaluate(self.formulas[kept])
        self.work += 1 + len(self.formulas[kept][1])

    def assign(self, name, place, variable, value, carried, size):
        change = value - self.values[variable]
        self.values[variable] = value
        carried = list(carried) + [kept for kept in self.program.kept if self.performs(('carry', name, place, kept))]
        for kept in carried:
            self.values[kept] += change * self.factor(kept, variable)
            self.work += size

    def factor(self, name, variable):
        if name in self.program.base:
            return int(name == variable)
        return sum(factor * self.factor(other, variable) for other, factor in self.formulas[name][1])


def entries(program, start, many=3):
    """All entries of the integers below so many, for a start."""
    length = len(program.base) if start == 'right' else len(program.base + program.kept)
    return itertools.product(range(many), repeat=length)


def few_entries(program, start):
    """Entries whose values span those of all."""
    length = len(program.base) if start == 'right' else len(program.base + program.kept)
    yield (0,) * length
    for place in range(length):
        yield tuple(int(at == place) for at in range(length))


def all_runs(program, updates, entry, most, inputs=(0, 1), missed=(), choices=(), whole=True):
    """The runs with at most so many choices, in ascending order; if not whole, also those that stop for one more."""
    run = ByHand(program, updates, entry, choices, missed, strict=True)
    if run.ended or (not whole and len(choices) == most):
        yield run
        return
    if len(choices) < most:
        for choice in (inputs if run.ways == 0 else range(run.ways)):
            yield from all_runs(program, updates, entry, most, inputs, missed, choices + (choice,), whole)


def runs_with_faults(program, updates, start, faults, most):
    """Runs from few entries that miss at most so many updates, with all choices up to some number."""
    for entry in few_entries(program, start):
        for run in all_runs(program, updates, entry, most, whole=False):
            for many in range(faults + 1):
                for missed in itertools.combinations(range(run.performed), many):
                    yield entry, ByHand(program, updates, entry, run.taken, missed, strict=True)

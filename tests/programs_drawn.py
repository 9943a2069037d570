"""Programs that look drawn at random."""

from freshplaces.actions import candidates, is_action
from freshplaces.errors import FreshError
from freshplaces.programs import Program

NAMES = ('main', 'p', 'q', 'h', 'i')


class Drawing:
    def __init__(self, draws, base=2, kept=2, most_kept_terms=2, depth=3, many=4, fresh=True):
        self.draws, self.depth, self.many, self.fresh = draws, depth, many, fresh
        self.base = ('a', 'b', 'c', 'd')[:base]
        self.formulas = []
        for name in ('k', 'j', 'm')[:kept]:
            below = self.base + tuple(other for other, _ in self.formulas)
            self.formulas.append((name, self.expression(below, most_kept_terms, 1)))
        self.kept = tuple(name for name, _ in self.formulas)

    def expression(self, names, most, least=0):
        chosen = sorted(self.draws.shuffled(names)[:self.draws.between(least, most)])
        factors = [self.draws.one_of([1, 1, 1, -1, 2]) for _ in chosen]
        return (self.draws.one_of([0, 0, 1, -1, 3]), tuple(zip(chosen, factors)))

    def dependent(self, variable):
        """The kept variables that depend on a base variable."""
        found = {variable: 1}
        for name, (_, terms) in self.formulas:
            factor = sum(factor * found.get(other, 0) for other, factor in terms)
            if factor:
                found[name] = factor
        return [name for name in found if name != variable]

    def carried(self, variable):
        return tuple(name for name in self.draws.shuffled(self.dependent(variable)) if self.draws.below(3) == 0)

    def statement(self, later, handlers, depth):
        kinds = ['set'] * 4 + ['input'] * 2 + ['tell'] * 3 + ['fresh'] * (self.fresh and bool(self.kept))
        kinds += ['call'] * bool(later) + ['pause'] * handlers + ['if', 'while'] * (depth < self.depth)
        word = self.draws.one_of(kinds)
        variable = self.draws.one_of(self.base)
        if word == 'set':
            names = self.base * 2 + self.kept if self.draws.below(2) else (variable,)
            return (word, variable, self.expression(sorted(set(names)), 2), self.carried(variable))
        if word == 'input':
            return (word, variable, self.carried(variable))
        if word == 'tell':
            return (word, self.expression(self.kept or self.base, 2, 1))
        if word == 'fresh':
            return (word, self.draws.one_of(self.kept))
        if word == 'call':
            return (word, self.draws.one_of(later))
        if word == 'if':
            return (word, self.block(later, handlers, depth + 1), self.block(later, handlers, depth + 1))
        if word == 'while':
            return (word, self.block(later, handlers, depth + 1))
        return (word,)

    def block(self, later, handlers, depth=1):
        return tuple(self.statement(later, handlers, depth) for _ in range(self.draws.below(self.many) + (depth == 1)))

    def program(self, procedures=4):
        names = NAMES[:procedures]
        handlers = tuple(name for name in names[3:] if self.draws.below(4))
        blocks = [(name, self.block(names[at + 1:], at < 3 and bool(handlers))) for at, name in enumerate(names)]
        return Program((self.base, tuple(self.formulas), handlers, tuple(blocks)))


def drawn_program(draws, procedures=4, most_extent=400, **wanted):
    """A program; those that are too large are left out."""
    while True:
        try:
            program = Drawing(draws, **wanted).program(procedures)
        except FreshError:
            continue
        if program.extent(program.start) <= most_extent:
            return program


def drawn_updates(draws, program, most=4, unreached=False):
    """Some updates of a program."""
    found = candidates(program)
    if unreached:
        found = [(word, name, place, kept) for name in program.procedures for place, _ in program.statements(name)
                 for kept in program.kept for word in ('carry', 'fresh')]
        found = [action for action in found if is_action(program, action)]
    return tuple(sorted(draws.shuffled(found)[:draws.below(most + 1)]))

"""The pass of the document, apart from how the package does it: from block to block, with fractions."""

import itertools
from fractions import Fraction


def rank_of(rows):
    """The number of independent rows."""
    left = [[Fraction(number) for number in row] for row in rows]
    found = 0
    for column in range(len(left[0]) if left else 0):
        pivot = next((row for row in left if row[column]), None)
        if pivot is None:
            continue
        found += 1
        left = [[number - other * row[column] / pivot[column] for number, other in zip(row, pivot)]
                for row in left if row is not pivot]
    return found


def spans(rows, row):
    return rank_of([*rows, row]) == rank_of(rows)


class Refused(Exception):
    pass


class PassByHand:
    def __init__(self, program, updates, paper, start, faults):
        self.program, self.updates, self.faults = program, updates, faults
        self.names = program.base + program.kept
        self.blocks, self.formulas = dict(program.tree()[3]), dict(program.tree()[1])
        self.left = list(paper)
        self.start = start

    def accepts(self):
        try:
            layers = [[] for _ in range(self.faults + 1)]
            layers[0] = self.first_rows()
            self.procedure(self.program.start, layers)
        except Refused:
            return False
        return not self.left

    def first_rows(self):
        many = len(self.program.base if self.start == 'right' else self.names)
        rows = []
        for entry in [(0,) * many] + [tuple(int(at == place) for at in range(many)) for place in range(many)]:
            values = dict(zip(self.names, entry))
            for kept in self.program.kept[:len(self.names) - many]:
                values[kept] = self.formulas[kept][0] + sum(factor * values[name] for name, factor in self.formulas[kept][1])
            rows.append((1,) + tuple(values[name] for name in self.names))
        return rows

    def evaluate(self, expression, row):
        return expression[0] * row[0] + sum(factor * row[1 + self.names.index(name)] for name, factor in expression[1])

    def correct(self, name, row):
        if name in self.program.base:
            return row[1 + self.names.index(name)]
        constant, terms = self.formulas[name]
        return constant * row[0] + sum(factor * self.correct(other, row) for other, factor in terms)

    def with_value(self, row, name, value):
        at = 1 + self.names.index(name)
        return row[:at] + (value,) + row[at + 1:]

    def less(self, layers):
        """Layers with independent rows."""
        found = []
        for rows in layers:
            kept = []
            for row in rows:
                if not spans(kept, row):
                    kept.append(row)
            found.append(kept)
        return found

    def joined(self, *states):
        return self.less([sum(rows, []) for rows in zip(*states)])

    def procedure(self, name, layers):
        return self.block(name, self.blocks[name], 0, layers)[0]

    def block(self, name, block, place, layers):
        for statement in block:
            layers, place = self.statement(name, statement, place, layers)
        return layers, place

    def renewed(self, name, place, layers):
        for kept in self.program.kept:
            if ('fresh', name, place, kept) in self.updates:
                found = [[] for _ in layers]
                for many, rows in enumerate(layers):
                    found[many] += [self.with_value(row, kept, self.evaluate(self.formulas[kept], row)) for row in rows]
                    if many < self.faults:
                        found[many + 1] += rows
                layers = found
        return layers

    def statement(self, name, statement, place, layers):
        layers = self.less(self.renewed(name, place, layers))
        word = statement[0]
        for kept in self.program.kept:
            if word in ('set', 'tell') and kept in dict(statement[2 if word == 'set' else 1][1]):
                if any(self.correct(kept, row) != row[1 + self.names.index(kept)] for rows in layers for row in rows):
                    raise Refused
        if word == 'if':
            one, place = self.block(name, statement[1], place + 1, layers)
            other, place = self.block(name, statement[2], place, layers)
            return self.joined(one, other), place
        if word == 'while':
            if len(self.left) < self.faults + 1:
                raise Refused
            given = [list(self.left.pop(0)) for _ in range(self.faults + 1)]
            self.compare(given, layers)
            back, place = self.block(name, statement[1], place + 1, given)
            self.compare(given, back)
            return given, place
        if word == 'call':
            layers = self.procedure(statement[1], layers)
        if word == 'pause':
            layers = self.joined(layers, *[self.procedure(handler, layers) for handler in self.program.handlers])
        if word == 'fresh':
            layers = [[self.with_value(row, statement[1], self.evaluate(self.formulas[statement[1]], row)) for row in rows]
                      for rows in layers]
        if word in ('set', 'input'):
            layers = self.assigned(name, place, statement, layers)
        return layers, place + 1

    def compare(self, given, layers):
        for rows, brought in zip(given, layers):
            if not all(spans(rows, row) for row in brought):
                raise Refused

    def assigned(self, name, place, statement, layers):
        variable, own = statement[1], list(statement[-1])
        actions = [kept for kept in self.program.kept if ('carry', name, place, kept) in self.updates]
        found = [[] for _ in layers]
        for many, rows in enumerate(layers):
            for left_out in range(min(len(actions), self.faults - many) + 1):
                for missed in itertools.combinations(actions, left_out):
                    carried = own + [kept for kept in actions if kept not in missed]
                    for row in rows:
                        found[many + left_out] += self.changed(row, variable, statement, carried)
        return self.less(found)

    def changed(self, row, variable, statement, carried):
        numbers = [self.evaluate(statement[2], row)] if statement[0] == 'set' else [0, row[0], -7 * row[0]]
        old = row[1 + self.names.index(variable)]
        rows = []
        for number in numbers:
            changed = self.with_value(row, variable, number)
            for kept in carried:
                factor = self.factor(kept, variable)
                changed = self.with_value(changed, kept, row[1 + self.names.index(kept)] + factor * (number - old))
            rows.append(changed)
        return rows

    def factor(self, name, variable):
        if name in self.program.base:
            return int(name == variable)
        return sum(factor * self.factor(other, variable) for other, factor in self.formulas[name][1])

"""The ways of the document's labels, apart from how the package does it: from statement to statement."""


class Ways:
    """Where a way can go: from each place, and from each end of a procedure, to the next places and ends."""

    def __init__(self, program):
        self.program = program
        self.names = [name for name in program.procedures if name == program.start or name in program.reached(program.start)]
        self.at, self.after, self.inside = {}, {}, {}
        for name in self.names:
            self.block(name, program.block(name), 0, [('end', name)])
        self.begins = {name: (name, 0) if program.block(name) else ('end', name) for name in self.names}
        self.returns = {name: [] for name in self.names}
        for spot, statement in self.at.items():
            for name in self.called(statement):
                self.returns[name] += self.after[spot]

    def called(self, statement):
        return {'call': statement[1:], 'pause': self.program.handlers}.get(statement[0], ())

    def block(self, name, block, place, behind):
        """Notes where a way goes from the statements of a block, behind which it goes on; returns what comes first."""
        places = []
        for statement in block:
            places.append(place)
            place += self.count((statement,))
        for at, statement in enumerate(block):
            here = places[at]
            after = [(name, places[at + 1])] if at + 1 < len(block) else behind
            self.at[name, here] = statement
            self.inside[name, here] = []
            if statement[0] == 'while':
                self.inside[name, here] = self.block(name, statement[1], here + 1, []) or []
                first = [(name, here + 1)] if statement[1] else []
                # A round leads to the next one or out of the while, without coming to its place again.
                self.block(name, statement[1], here + 1, first + after)
                self.inside[name, here] = first
            if statement[0] == 'if':
                middle = here + 1 + self.count(statement[1])
                self.block(name, statement[1], here + 1, after)
                self.block(name, statement[2], middle, after)
                self.inside[name, here] = [(name, here + 1)] if statement[1] else after
                self.inside[name, here] = self.inside[name, here] + ([(name, middle)] if statement[2] else after)
            self.after[name, here] = after
        return [(name, places[0])] if block else behind

    def count(self, block):
        return sum(1 + sum(self.count(part) for part in statement[1:] if statement[0] in ('if', 'while')) for statement in block)

    def next(self, spot):
        """Where a way goes on from a place, behind the statement there or into it."""
        statement = self.at[spot]
        if statement[0] == 'call':
            return [self.begins[statement[1]]]
        if statement[0] == 'pause':
            return self.after[spot] + [self.begins[name] for name in self.program.handlers]
        if statement[0] == 'if':
            return self.inside[spot]
        return self.after[spot] + self.inside[spot]

    def keep(self, kept, updates, start):
        """Whether no use of a kept variable is reached by a way on which it is stale."""
        depends = {variable for variable, _ in self.program.formula(kept)[1]}
        waiting = [(self.begins[self.program.start], start == 'any')]
        seen = set()
        while waiting:
            spot, stale = waiting.pop()
            if (spot, stale) in seen:
                continue
            seen.add((spot, stale))
            if spot[0] == 'end' and spot not in self.at:
                waiting += [(other, stale) for other in self.returns[spot[1]]]
                continue
            if ('fresh',) + spot + (kept,) in updates:
                stale = False
            statement = self.at[spot]
            reads = {'set': 2, 'tell': 1}.get(statement[0])
            if stale and reads and kept in dict(statement[reads][1]):
                return False
            if statement[0] in ('set', 'input') and statement[1] in depends:
                stale = stale or not (kept in statement[-1] or ('carry',) + spot + (kept,) in updates)
            if statement == ('fresh', kept):
                stale = False
            waiting += [(other, stale) for other in self.next(spot)]
        return True

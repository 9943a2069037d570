"""The grammars of programs and questions, as the document writes them, and a recogniser that knows what may follow."""

RULES = {
    'PROGRAM': ['base NAMES KEPTS HANDLERS PROCEDURES'],
    'NAMES': ['NAME', 'NAMES NAME'],
    'KEPTS': ['', 'KEPTS kept NAME = EXPR'],
    'HANDLERS': ['', 'handlers NAMES'],
    'PROCEDURES': ['PROCEDURE', 'PROCEDURES PROCEDURE'],
    'PROCEDURE': ['def NAME BLOCK'],
    'BLOCK': ['{ STATEMENTS }'],
    'STATEMENTS': ['', 'STATEMENTS STATEMENT'],
    'STATEMENT': ['NAME = EXPR CARRY', 'NAME = ? CARRY', 'tell EXPR', 'fresh NAME', 'call NAME', 'pause',
                  'if BLOCK', 'if BLOCK else BLOCK', 'while BLOCK'],
    'CARRY': ['', 'carry LIST'],
    'LIST': ['NAME', 'LIST , NAME'],
    'EXPR': ['TERM', '- TERM', 'EXPR + TERM', 'EXPR - TERM'],
    'TERM': ['NUMBER', 'NAME', 'NUMBER * NAME'],
    'QUESTION': ['some COND', 'no COND', 'count COND', 'every COND then COND'],
    'COND': ['BOTH', 'COND or BOTH'],
    'BOTH': ['ONE', 'BOTH and ONE'],
    'ONE': ['not ONE', '( COND )', 'any', 'procedure NAME', 'place NUMBER', 'kept NAME', 'verdict right', 'verdict stale',
            'depends NAME'],
}
RULES = {head: [body.split() for body in bodies] for head, bodies in RULES.items()}
WORDS = 'base kept handlers def if else while tell fresh carry call pause'.split()


def symbols_of(token):
    """What a token may be; a word of questions may also be a name."""
    if token in WORDS or token in list('=+-*?{},()'):
        return [token]
    return ['NUMBER'] if token.isdigit() else ['NAME', token]


class Recogniser:
    """Goes through tokens; accepts(symbols) tells whether some text of the grammar goes on with one of these symbols."""

    def __init__(self, goal):
        self.goal = goal
        self.sets = [self._closed({(goal, tuple(body), 0, 0) for body in RULES[goal]}, 0)]

    def accepts(self, symbols):
        after = {(head, body, dot + 1, start) for head, body, dot, start in self.sets[-1]
                 if dot < len(body) and body[dot] in symbols}
        if not after:
            return False
        self.sets.append(None)
        self.sets[-1] = self._closed(after, len(self.sets) - 1)
        return True

    def is_complete(self):
        return any(head == self.goal and dot == len(body) and start == 0
                   for head, body, dot, start in self.sets[-1])

    def _closed(self, items, at):
        items = set(items)
        waiting = list(items)
        while waiting:
            head, body, dot, start = waiting.pop()
            if dot < len(body):
                new = {(body[dot], tuple(rule), 0, at) for rule in RULES.get(body[dot], [])}
                if any(h == body[dot] and d == len(b) and s == at for h, b, d, s in items):
                    new.add((head, body, dot + 1, start))
            else:
                around = items if start == at else self.sets[start]
                new = {(h, b, d + 1, s) for h, b, d, s in around if d < len(b) and b[d] == head}
            for item in new - items:
                items.add(item)
                waiting.append(item)
        return items


def first_wrong(tokens, goal='PROGRAM'):
    """The index of the first token that cannot stand there; len(tokens) if more is needed; None if all is well."""
    recogniser = Recogniser(goal)
    for index, token in enumerate(tokens):
        if not recogniser.accepts(symbols_of(token)):
            return index
    return None if recogniser.is_complete() else len(tokens)

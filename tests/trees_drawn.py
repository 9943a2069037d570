"""Trees that look drawn at random."""

BASE = ('a', 'b', 'x1')
KEPT = ('j', 'k')
PROCEDURES = ('main', 'p', 'h')


def expression(draws):
    constant = draws.one_of([0, 0, 1, -1, 7, -12, 999999999999])
    names = sorted(name for name in BASE + KEPT if draws.below(3) == 0)
    return (constant, tuple((name, draws.one_of([1, -1, 2, -3, -999999999999])) for name in names))


def carried(draws):
    return tuple(draws.one_of(KEPT) for _ in range(draws.one_of([0, 0, 1, 2])))


def statement(draws, depth):
    word = draws.one_of(['set', 'input', 'tell', 'fresh', 'call', 'pause', 'if', 'while'])
    if word == 'set':
        return (word, draws.one_of(BASE), expression(draws), carried(draws))
    if word == 'input':
        return (word, draws.one_of(BASE), carried(draws))
    if word == 'tell':
        return (word, expression(draws))
    if word == 'fresh':
        return (word, draws.one_of(KEPT))
    if word == 'call':
        return (word, draws.one_of(PROCEDURES))
    if word == 'if':
        return (word, block(draws, depth + 1), block(draws, depth + 1))
    if word == 'while':
        return (word, block(draws, depth + 1))
    return ('pause',)


def block(draws, depth=1):
    many = draws.below(4) if depth < 5 else 0
    return tuple(statement(draws, depth) for _ in range(many))


def tree(draws):
    """A tree of the right form, which need not be that of a program."""
    kept = tuple((name, expression(draws)) for name in KEPT if draws.below(2))
    handlers = tuple(name for name in PROCEDURES if draws.below(3) == 0)
    procedures = tuple((name, block(draws)) for name in PROCEDURES if name == 'main' or draws.below(2))
    return (BASE[:draws.between(1, 3)], kept, handlers, procedures)

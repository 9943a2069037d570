"""Reads the texts of programs into trees."""

from freshplaces.errors import InvalidText, TooLarge
from freshplaces.expressions import expression_of
from freshplaces.tokens import Reader, kind_of

SIGNS = "=+-*?{},"
MOST_AROUND = 30


def parse(text):
    """The tree of the text of a program."""
    reader = _reader(text)
    tree = _program(reader)
    reader.finish()
    return tree


def parse_procedure(text):
    """The pair (name, block) of the text of a procedure."""
    reader = _reader(text)
    pair = _procedure(reader)
    reader.finish()
    return pair


def is_name(value):
    """Whether any value is a name: a word that is no keyword."""
    return isinstance(value, str) and kind_of(value) == "name"


def _reader(text):
    if not isinstance(text, str):
        raise InvalidText(text)
    return Reader(text, SIGNS)


def _program(reader):
    reader.expect("base")
    base = _names(reader)
    kept = []
    while reader.skipped("kept"):
        name = reader.take_name()
        reader.expect("=")
        kept.append((name, _expression(reader)))
    handlers = _names(reader) if reader.skipped("handlers") else ()
    procedures = [_procedure(reader)]
    while reader.peek() == "def":
        procedures.append(_procedure(reader))
    return (base, tuple(kept), handlers, tuple(procedures))


def _names(reader):
    """One name or more, side by side."""
    names = [reader.take_name()]
    while reader.sees("name"):
        names.append(reader.take_name())
    return tuple(names)


def _procedure(reader):
    reader.expect("def")
    name = reader.take_name()
    return (name, _block(reader, 0))


def _block(reader, around):
    """A block that stands inside so many others."""
    reader.expect("{")
    if around >= MOST_AROUND:
        raise TooLarge("nesting")
    block = []
    while not reader.skipped("}"):
        block.append(_statement(reader, around))
    return tuple(block)


def _statement(reader, around):
    """A statement of a block that stands inside so many others."""
    if reader.sees("name"):
        return _assignment(reader)
    if reader.skipped("tell"):
        return ("tell", _expression(reader))
    if reader.skipped("fresh"):
        return ("fresh", reader.take_name())
    if reader.skipped("call"):
        return ("call", reader.take_name())
    if reader.skipped("pause"):
        return ("pause",)
    if reader.skipped("while"):
        return ("while", _block(reader, around + 1))
    reader.expect("if")
    block = _block(reader, around + 1)
    other = _block(reader, around + 1) if reader.skipped("else") else ()
    return ("if", block, other)


def _assignment(reader):
    variable = reader.take_name()
    reader.expect("=")
    if reader.skipped("?"):
        return ("input", variable, _carried(reader))
    expression = _expression(reader)
    return ("set", variable, expression, _carried(reader))


def _carried(reader):
    """The names behind carry; none if there is no carry."""
    if not reader.skipped("carry"):
        return ()
    names = [reader.take_name()]
    while reader.skipped(","):
        names.append(reader.take_name())
    return tuple(names)


def _expression(reader):
    constant = 0
    pairs = []
    sign = -1 if reader.skipped("-") else 1
    while sign != 0:
        factor, variable = _term(reader)
        if variable is None:
            constant += sign * factor
        else:
            pairs.append((variable, sign * factor))
        sign = _next_sign(reader)
    return expression_of(constant, pairs)


def _term(reader):
    """The factor and the variable of a term; None stands for no variable."""
    if not reader.sees("number"):
        return (1, reader.take_name())
    factor = reader.take_number()
    if not reader.skipped("*"):
        return (factor, None)
    return (factor, reader.take_name())


def _next_sign(reader):
    """1 behind a plus, -1 behind a minus, 0 where the expression ends."""
    if reader.skipped("+"):
        return 1
    if reader.skipped("-"):
        return -1
    return 0

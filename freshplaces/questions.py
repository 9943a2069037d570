"""Questions about the rows of a program: its uses, and whether the kept variables are right there."""

from freshplaces.errors import InvalidQuestion, InvalidSyntax, InvalidText, TooLarge, UnknownName, UnknownProcedure
from freshplaces.formulas import sources
from freshplaces.states import States
from freshplaces.tokens import Reader

SIGNS = "=+-*?{},()"
VERDICTS = ("right", "stale")
# Where each field stands in a row; what a row depends on is a tuple.
FIELDS = {"procedure": 0, "place": 1, "kept": 2, "verdict": 3, "depends": 4}
WORDS_OF_QUESTIONS = ("some", "no", "count", "every")
MOST_ONES_AROUND = 30


class Condition:
    """A condition of rows, with the parts of which it consists."""

    def __init__(self, parts):
        self._parts = parts

    def __call__(self, row):
        word = self._parts[0]
        if word == "any":
            return True
        first = self._parts[1]
        if word == "not":
            return not first(row)
        if word in ("and", "or"):
            second = self._parts[2]
            return first(row) and second(row) if word == "and" else first(row) or second(row)
        if word == "depends":
            return first in row[FIELDS[word]]
        return row[FIELDS[word]] == first

    def __and__(self, other):
        return Condition(("and", self, other))

    def __or__(self, other):
        return Condition(("or", self, other))

    def __invert__(self):
        return Condition(("not", self))

    def __eq__(self, other):
        return isinstance(other, Condition) and self._parts == other._parts

    def parts(self):
        """The tuple of the word of the condition and of what stands behind it."""
        return self._parts


def where(**wanted):
    """The condition that all these fields have these values."""
    found = None
    for word, value in wanted.items():
        if word not in FIELDS:
            raise UnknownName(word)
        one = Condition((word, value))
        found = one if found is None else found & one
    return Condition(("any",)) if found is None else found


def read_condition(text):
    """The condition with a text."""
    return _read(text, _condition)


def rows_of(program, updates=()):
    """The list of the rows (procedure, place, kept, verdict, bases) of a program with updates."""
    states = States(program, updates)
    found = []
    for name, place, kept in states.uses():
        verdict = "right" if states.is_right(name, place, kept) else "stale"
        found.append((name, place, kept, verdict, sources(program, kept)))
    return found


def selected(program, condition, updates=()):
    """Yields the rows for which a condition, or any function of a row, holds."""
    for row in rows_of(program, updates):
        if condition(row):
            yield row


def ask(program, text, updates=()):
    """The answer to a question: True or False, or a number if it counts."""
    word, first, second = _read(text, _question)
    _check_names(program, first)
    if word == "every":
        _check_names(program, second)
    found = [row for row in rows_of(program, updates) if first(row)]
    if word == "count":
        return len(found)
    if word == "every":
        return all([second(row) for row in found])
    return (len(found) > 0) == (word == "some")


def _check_names(program, condition):
    """Raises an error for the first name in a condition, from left to right, that there is not."""
    word = condition.parts()[0]
    if word in ("not", "and", "or"):
        for part in condition.parts()[1:]:
            _check_names(program, part)
        return
    name = condition.parts()[-1]
    if word == "procedure" and name not in program:
        raise UnknownProcedure(name)
    if word == "kept" and name not in program.kept:
        raise UnknownName(name)
    if word == "depends" and name not in program.base:
        raise UnknownName(name)


def _read(text, rule):
    """What a rule, a function of a reader, finds in any value, which has to be a text with nothing else."""
    if not isinstance(text, str):
        raise InvalidText(text)
    reader = Reader(text, SIGNS)
    try:
        found = rule(reader)
        reader.finish()
    except InvalidSyntax as error:
        raise InvalidQuestion(error.position) from None
    return found


def _question(reader):
    """The tuple (word, condition, other condition) of a question; None stands for no other condition."""
    word = _word_of(reader, WORDS_OF_QUESTIONS)
    first = _condition(reader)
    if word != "every":
        return (word, first, None)
    reader.expect("then")
    return (word, first, _condition(reader))


def _condition(reader, around=0):
    """A condition inside so many others."""
    found = _both(reader, around)
    while reader.skipped("or"):
        found = found | _both(reader, around)
    return found


def _both(reader, around):
    found = _one(reader, around)
    while reader.skipped("and"):
        found = found & _one(reader, around)
    return found


def _one(reader, around):
    if around > MOST_ONES_AROUND:
        raise TooLarge("nesting")
    if reader.skipped("not"):
        return ~_one(reader, around + 1)
    if reader.skipped("("):
        found = _condition(reader, around + 1)
        reader.expect(")")
        return found
    if reader.skipped("any"):
        return Condition(("any",))
    word = _word_of(reader, list(FIELDS))
    if word == "place":
        return Condition((word, reader.take_number()))
    if word == "verdict":
        return Condition((word, _word_of(reader, VERDICTS)))
    return Condition((word, reader.take_name()))


def _word_of(reader, words):
    """Goes on behind one of these words, and returns it."""
    word = reader.peek()
    if word not in words:
        reader.refuse()
    reader.expect(word)
    return word

"""A console, which keeps a session and performs commands that are texts."""

from freshplaces.actions import updated
from freshplaces.errors import InvalidCommand, InvalidText
from freshplaces.machine import Machine
from freshplaces.printing import show
from freshplaces.programs import Program
from freshplaces.questions import ask, rows_of
from freshplaces.sessions import Session
from freshplaces.texts import parse_procedure
from freshplaces.tokens import MOST_DIGITS, kind_of

FIRST_TEXT = "base x def main { }"
# How many words each command has; 0 stands for two or more.
LENGTHS_OF_COMMANDS = {
    "program": 0,
    "define": 0,
    "offer": 5,
    "withdraw": 5,
    "weigh": 4,
    "back": 1,
    "updates": 1,
    "show": 1,
    "written": 1,
    "ask": 0,
    "uses": 1,
    "run": 3,
}
NOTHING = "-"
NO = "no"


class Console:
    """Keeps a session, at first one of a program that does nothing."""

    def __init__(self):
        self._session = Session(Program.read(FIRST_TEXT))

    def execute(self, command):
        """Performs a command, and returns what it answers."""
        words = _words_of(command)
        word = words[0]
        if word == "program":
            self._session = Session(Program.read(_rest(words)))
            return "ok"
        if word == "updates":
            return NO if self._session.updates is None else _lines(self._session.updates)
        if word == "show":
            return _text_of(self._session.program)
        if word == "written":
            return self._written()
        if word == "ask":
            return _answer(ask(self._session.program, _rest(words), self._right_updates()))
        if word == "uses":
            return _lines([row[:4] for row in rows_of(self._session.program, self._right_updates())])
        if word == "run":
            return self._run(tuple(_integers(words[1])), _integers(words[2]))
        return self._performed(_event_of(words))

    def _right_updates(self):
        """The updates of the session; those that are empty if there are none that are right."""
        return () if self._session.updates is None else self._session.updates

    def _written(self):
        session = self._session
        return NO if session.updates is None else _text_of(updated(session.program, session.updates))

    def _run(self, entry, choices):
        machine = Machine(self._session.program, self._right_updates())
        values, told, _ = machine(entry, choices)
        uses = [_joined(use, ":") for use in machine.stale(entry, choices)]
        return "\n".join([_joined(values, " "), _joined(told, " "), _joined(uses, " ")])

    def _performed(self, event):
        word = self._session.perform(event)
        cost = self._session.cost()
        return word if cost is None else word + " " + str(cost)


def _words_of(command):
    """The list of the words of any value that is a command, of which the first one tells how many there are."""
    if not isinstance(command, str) or "\n" in command or "" in command.split(" "):
        raise InvalidCommand(None)
    words = command.split(" ")
    word = words[0]
    if word not in LENGTHS_OF_COMMANDS:
        raise InvalidCommand(word)
    length = LENGTHS_OF_COMMANDS[word]
    if len(words) != length and (length != 0 or len(words) < 2):
        raise InvalidCommand(word)
    return words


def _rest(words):
    """The text of the words behind the first one."""
    return " ".join(words[1:])


def _event_of(words):
    """The event that the words of a command tell."""
    word = words[0]
    if word == "define":
        name, block = parse_procedure("def " + _rest(words))
        return ("edit", name, block)
    if word == "weigh":
        return (word, words[1], _whole(words[2]), _whole(words[3]))
    if word in ("offer", "withdraw"):
        return (word, (words[1], words[2], _whole(words[3]), words[4]))
    return (word,)


def _whole(word):
    """The integer from 0 that a word tells."""
    if not _is_number(word):
        raise InvalidText(word)
    return int(word)


def _integers(word):
    """The list of the integers that a word tells."""
    if word == NOTHING:
        return []
    parts = word.split(",")
    if not all([part != "-0" and _is_number(part.removeprefix("-")) for part in parts]):
        raise InvalidText(word)
    return [int(part) for part in parts]


def _is_number(word):
    return kind_of(word) == "number" and len(word) <= MOST_DIGITS


def _joined(parts, sign):
    """What stands in a line for some names or numbers."""
    return sign.join([str(part) for part in parts]) if parts else NOTHING


def _lines(rows):
    """Lines for tuples of names and numbers."""
    return "\n".join([_joined(row, " ") for row in rows]) if rows else NOTHING


def _text_of(program):
    """The text of a program without its last newline."""
    return show(program.tree()).removesuffix("\n")


def _answer(found):
    """How the answer to a question is written."""
    if isinstance(found, bool):
        return "yes" if found else NO
    return str(found)

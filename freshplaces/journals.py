"""Journals: the texts of events, with checks, so that what is torn or changed is noticed."""

from freshplaces.drafts import is_event
from freshplaces.errors import FreshError, InvalidEvent, InvalidText
from freshplaces.kinds import is_whole
from freshplaces.printing import procedure_lines
from freshplaces.texts import is_name, parse_procedure
from freshplaces.tokens import kind_of
from freshplaces.trees import is_block

# All characters of the texts of events, in the order in which they are numbered from 1.
CHARACTERS = " =+-*?{},0123456789abcdefghijklmnopqrstuvwxyz"
MODULUS = 999983
MOST_DIGITS = 60
WORDS_OF_ACTIONS = ("fresh", "carry")
HEAD_OF_PROCEDURE = "def "
HEAD_OF_EDIT = "edit "


def event_text(event):
    """The text of an event, from which it is read back."""
    text = _text_of(event)
    if text is None or _read(text) != event:
        raise InvalidEvent(event)
    return text


def read_event(text):
    """The event with a text."""
    event = _event_of(text) if isinstance(text, str) else None
    if event is None:
        raise InvalidText(text)
    return event


def journal_text(events):
    """The journal of a list of events."""
    return "".join([_line(index, event_text(event)) for index, event in enumerate(events)])


def appended(text, event):
    """A text with one more line, for an event."""
    if not isinstance(text, str):
        raise InvalidText(text)
    return text + _line(text.count("\n"), event_text(event))


def recovered(text):
    """The list of the events of the longest beginning of a text that is a journal."""
    if not isinstance(text, str):
        raise InvalidText(text)
    found = []
    # What stands behind the last newline is no line of a journal.
    for line in text.split("\n")[:-1]:
        parts = line.split(" ", 3)
        event = _event_of(parts[-1])
        if event is None or line + "\n" != _line(len(found), parts[-1]):
            break
        found.append(event)
    return found


def _line(index, text):
    """The line of a journal for the text of an event."""
    check = 0
    for position, character in enumerate(text):
        check += (position + 1) * (CHARACTERS.index(character) + 1)
    return " ".join([str(index), str(len(text)), str(check % MODULUS), text]) + "\n"


def _event_of(text):
    """The event with a text; None if it is not just the text of an event."""
    event = _read(text)
    return event if _text_of(event) == text else None


def _text_of(event):
    """The text of any value that is an event with such names and numbers as texts have; otherwise None."""
    if not is_event(event):
        return None
    word = event[0]
    if word == "back":
        return word
    if word == "edit":
        return _edit_text(event[1], event[2])
    if word == "weigh":
        return _joined(event) if _are_parts(event[1:], ("name", "number", "number")) else None
    action = event[1]
    if not isinstance(action, tuple) or not _are_parts(action, ("word", "name", "number", "name")):
        return None
    return _joined((word,) + action)


def _edit_text(name, block):
    if not is_name(name) or not is_block(block):
        return None
    text = " ".join([line.lstrip() for line in procedure_lines(name, block)])
    return HEAD_OF_EDIT + text.removeprefix(HEAD_OF_PROCEDURE)


def _joined(parts):
    return " ".join([str(part) for part in parts])


def _are_parts(values, kinds):
    """Whether some values are of these kinds."""
    return len(values) == len(kinds) and all([_is_part(value, kind) for value, kind in zip(values, kinds)])


def _is_part(value, kind):
    if kind == "number":
        # A number of far more than MOST_DIGITS digits could not even be written.
        return is_whole(value) and 0 <= value < 10 ** 60
    if kind == "word":
        return isinstance(value, str) and value in WORDS_OF_ACTIONS
    return is_name(value)


def _read(text):
    """The event that the words of a text tell; None if they tell none. Other texts may tell the same event."""
    words = text.split(" ")
    if words[0] == "edit":
        return _read_edit(text)
    if words[0] == "weigh" and len(words) == 4:
        word, name, place, number = words
        return (word, name, _number(place), _number(number))
    if words[0] in ("offer", "withdraw") and len(words) == 5:
        word, verb, name, place, kept = words
        return (word, (verb, name, _number(place), kept))
    return ("back",) if text == "back" else None


def _read_edit(text):
    try:
        name, block = parse_procedure(HEAD_OF_PROCEDURE + text.removeprefix(HEAD_OF_EDIT))
    except FreshError:
        return None
    return ("edit", name, block)


def _number(word):
    """The integer that a word tells; None if it tells none, or a longer one than texts have."""
    return int(word) if kind_of(word) == "number" and len(word) <= MOST_DIGITS else None

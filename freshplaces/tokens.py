"""The tokens of texts, and a reader that goes through them."""

from freshplaces.errors import InvalidSyntax, TooLarge

LETTERS = "abcdefghijklmnopqrstuvwxyz"
DIGITS = "0123456789"
BLANKS = " \n"
KEYWORDS = ("base", "kept", "handlers", "def", "if", "else", "while", "tell", "fresh", "carry", "call", "pause")
MOST_DIGITS = 12


def kind_of(run):
    """What a string is: a "name", a "keyword", a "number", or "none" of these."""
    if not run or not all([character in LETTERS or character in DIGITS for character in run]):
        return "none"
    if run in KEYWORDS:
        return "keyword"
    if run[0] in LETTERS:
        return "name"
    if run == "0" or (run[0] != "0" and all([character in DIGITS for character in run])):
        return "number"
    return "none"


def tokens_of(text, signs):
    """The list of the tokens of a text: tuples (kind, token, position).

    The last one is of the kind "end", or of the kind "none" where no token begins.
    """
    found = []
    at = 0
    while at < len(text):
        if text[at] in BLANKS:
            at += 1
            continue
        token = _token_at(text, at, signs)
        kind = "sign" if token in signs else kind_of(token)
        found.append((kind, token, at))
        if kind == "none":
            return found
        at += len(token)
    found.append(("end", "", len(text)))
    return found


def _token_at(text, at, signs):
    """The run of letters and digits at a position, or else the one character there."""
    end = at
    while end < len(text) and (text[end] in LETTERS or text[end] in DIGITS):
        end += 1
    return text[at:max(end, at + 1)]


class Reader:
    """Goes through the tokens of a text, and refuses the first one that cannot stand where it stands."""

    def __init__(self, text, signs):
        self._tokens = tokens_of(text, signs)
        self._next = 0

    def peek(self):
        """The next token; an empty string at the end."""
        return self._tokens[self._next][1]

    def sees(self, kind):
        """Whether the next token is of this kind."""
        return self._tokens[self._next][0] == kind

    def refuse(self):
        """Raises the error of a token that cannot stand here."""
        raise InvalidSyntax(self._tokens[self._next][2])

    def skipped(self, token):
        """Goes on behind the next token if it is this one, and returns whether it is."""
        if self.peek() != token:
            return False
        self._next += 1
        return True

    def expect(self, token):
        """Goes on behind this token."""
        if not self.skipped(token):
            self.refuse()

    def take_name(self):
        """Goes on behind a name, and returns it."""
        return self._taken("name")

    def take_number(self):
        """Goes on behind a number, and returns it as an integer."""
        if self.sees("number") and len(self.peek()) > MOST_DIGITS:
            raise TooLarge("numbers")
        return int(self._taken("number"))

    def finish(self):
        """Refuses whatever is left."""
        if not self.sees("end"):
            self.refuse()

    def _taken(self, kind):
        if not self.sees(kind):
            self.refuse()
        token = self.peek()
        self._next += 1
        return token

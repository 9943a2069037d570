"""The errors of the package."""


class FreshError(ValueError):
    """What most errors of the package are."""


class InvalidText(FreshError):
    """A value is no text of the form that is wanted."""

    def __init__(self, value):
        super().__init__("the text is invalid")
        self.value = value


class InvalidSyntax(FreshError):
    """A token stands in a text where it cannot stand, or a text ends too early."""

    def __init__(self, position):
        super().__init__("no token that may stand here begins at this position")
        self.position = position


class InvalidTree(FreshError):
    """A value has not the form of a tree."""

    def __init__(self, value):
        super().__init__("the value is no tree of a program")
        self.value = value


class DuplicateName(FreshError):
    """A name is given twice."""

    def __init__(self, name):
        super().__init__("the name stands there twice")
        self.name = name


class UnknownName(FreshError):
    """A name stands for something that there is not."""

    def __init__(self, name):
        super().__init__("there is nothing of this name")
        self.name = name


class InvalidCall(FreshError):
    """A call or a pause leads to a procedure that does not stand behind."""

    def __init__(self, place):
        super().__init__("what is called here does not stand behind")
        self.place = place


class InvalidCarry(FreshError):
    """A kept variable cannot be carried at a place."""

    def __init__(self, place):
        super().__init__("this cannot be carried here")
        self.place = place


class InvalidFormula(FreshError):
    """A formula is not of the form that is wanted."""

    def __init__(self, value):
        super().__init__("the formula is invalid")
        self.value = value


class TooLarge(FreshError):
    """A part of a text or of a program is larger than allowed."""

    def __init__(self, word):
        super().__init__("this is larger than allowed")
        self.word = word


class TooMany(FreshError):
    """There are more things of a kind than allowed."""

    def __init__(self, word):
        super().__init__("these are more than allowed")
        self.word = word


class InvalidRow(FreshError):
    """A value is no row, no width or no space of the width that is wanted."""

    def __init__(self, value):
        super().__init__("the value does not fit the width")
        self.value = value


class InvalidEntry(FreshError):
    """A value is no entry of a program."""

    def __init__(self, value):
        super().__init__("the value is no entry")
        self.value = value


class InvalidChoices(FreshError):
    """A value is no list of choices, or no tuple of missed numbers."""

    def __init__(self, value):
        super().__init__("the value is no choices")
        self.value = value


class InvalidAction(FreshError):
    """A value is no action or no updates of a program."""

    def __init__(self, value):
        super().__init__("the value is no action")
        self.value = value


class InvalidWeights(FreshError):
    """A value is no weights of a program."""

    def __init__(self, value):
        super().__init__("the value is no weights")
        self.value = value


class InvalidFaults(FreshError):
    """A value is no number of faults."""

    def __init__(self, value):
        super().__init__("the value is no number of faults")
        self.value = value


class InvalidEvent(FreshError):
    """A value is no event, or it cannot be performed."""

    def __init__(self, value):
        super().__init__("the value is no event")
        self.value = value


class InvalidQuestion(FreshError):
    """A token stands in a question where it cannot stand."""

    def __init__(self, position):
        super().__init__("no token that may stand here begins at this position")
        self.position = position


class InvalidCommand(FreshError):
    """A command is not of the form that is wanted."""

    def __init__(self, word):
        super().__init__("the command is invalid")
        self.word = word


class UnknownProcedure(KeyError):
    """A program has no procedure of a name."""

    def __init__(self, name):
        super().__init__("there is no procedure of this name")
        self.name = name


class LimitExceeded(RuntimeError):
    """A run goes beyond a limit."""

    def __init__(self, word):
        super().__init__("the run goes beyond the limit")
        self.word = word

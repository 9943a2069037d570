"""Courses: which statements begin in a run. They follow from the choices alone, whatever the values are."""

MOST_STATEMENTS = 4000


class Course:
    """The course of a run through the steps of a code.

    Behind the choices that are given, each further choice is 0, or the first input. If there would be more choices
    than most (None: any number), the course ends early, without has_ended; so it does with is_too_long if there would
    be too many statements. begun has pairs (step, number that is taken by an input); ways has for each choice how many
    there were, 0 for an input.
    """

    def __init__(self, steps, choices, first_input=0, most=None):
        self.begun = []
        self.choices = []
        self.ways = []
        self.has_ended = False
        self.is_too_long = False
        self._given = choices
        self._first_input = first_input
        self._most = most
        self._follow(steps)

    def _follow(self, steps):
        at = 0
        while steps[at].word != "end":
            step = steps[at]
            at += 1
            if step.word == "jump":
                at = step.targets[0]
                continue
            if step.word not in ("choice", "loop"):
                if len(self.begun) == MOST_STATEMENTS:
                    self.is_too_long = True
                    return
                self.begun.append((step, 0))
            if step.word in ("choice", "loop", "input"):
                if self._most is not None and len(self.choices) >= self._most:
                    return
                at = self._chosen(step, at)
        self.has_ended = True

    def _chosen(self, step, behind):
        """Takes a choice, and returns where the course goes on."""
        many = len(step.targets)
        number = self._given[len(self.choices)] if len(self.choices) < len(self._given) else None
        if step.word == "input":
            number = self._first_input if number is None else number
            self.begun[-1] = (step, number)
        else:
            number = 0 if number is None else number
            behind = step.targets[number % many]
        self.choices.append(number)
        self.ways.append(many)
        return behind

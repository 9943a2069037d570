"""The machine, which runs a program with updates."""

from freshplaces.actions import check_updates
from freshplaces.codes import Code
from freshplaces.courses import Course
from freshplaces.errors import InvalidChoices, InvalidEntry, LimitExceeded
from freshplaces.kinds import is_whole
from freshplaces.performances import Performance
from freshplaces.plans import plan_of


class Machine:
    """Runs a program with updates."""

    def __init__(self, program, updates=()):
        check_updates(program, updates)
        self._program = program
        self._code = Code(program)
        self._updates = updates
        self._plan = plan_of(program, self._code.frame, updates)

    @property
    def updates(self):
        """The updates with which the machine runs the program."""
        return self._updates

    def __call__(self, entry, choices, missed=()):
        """Runs the program: the values at the end, what the run tells, and how many choices it takes."""
        course = self._course(entry, choices, missed)
        done = self._performed(entry, course, missed)
        return _outcome(done, course)

    def stale(self, entry, choices, missed=()):
        """The list of the uses that a run makes while the kept variable is not right."""
        course = self._course(entry, choices, missed)
        return self._performed(entry, course, missed).stale_uses_made

    def visits(self, entry, choices):
        """A dict from the pairs (procedure, place) of the statements that begin in a run to how often they do so."""
        course = self._course(entry, choices, ())
        found = {}
        for step, _ in course.begun:
            found[step.spot] = found.get(step.spot, 0) + 1
        return found

    def work(self, entry, choices, missed=()):
        """The sum of the sizes of all that is computed anew and carried in a run."""
        course = self._course(entry, choices, missed)
        return self._performed(entry, course, missed).work_done

    def runs(self, entry, most, inputs=(0, 1)):
        """Yields (choices, outcome) for each run that takes at most so many choices and stays within the limit."""
        for course, done in self.performed_runs(entry, most, inputs):
            yield (list(course.choices), _outcome(done, course))

    def performed_runs(self, entry, most, inputs):
        """Yields (course, performance) for each of these runs."""
        self._check_entry(entry)
        choices = []
        while choices is not None:
            course = Course(self._code.steps, choices, inputs[0], most)
            if course.has_ended:
                yield (course, self._performed(entry, course, ()))
            choices = _following(course, inputs)

    def within(self, updates, call):
        """What call() returns while the machine has these updates in place of its own."""
        check_updates(self._program, updates)
        own_updates = self._updates
        own_plan = self._plan
        try:
            self._updates = updates
            self._plan = plan_of(self._program, self._code.frame, updates)
            return call()
        finally:
            self._updates, self._plan = own_updates, own_plan

    def _check_entry(self, entry):
        if not self._code.frame.is_entry(entry):
            raise InvalidEntry(entry)

    def _course(self, entry, choices, missed):
        """The course of a run with these arguments, which may be any values."""
        self._check_entry(entry)
        if not are_choices(choices):
            raise InvalidChoices(choices)
        if not is_missed(missed):
            raise InvalidChoices(missed)
        course = Course(self._code.steps, choices)
        if course.is_too_long:
            raise LimitExceeded("steps")
        return course

    def _performed(self, entry, course, missed):
        done = Performance(self._code.frame, self._plan, self._code.frame.row_of(entry), missed)
        for step, number in course.begun:
            done.begin(step, number)
        return done


def are_choices(value):
    """Whether any value is a list of integers."""
    return isinstance(value, list) and all([is_whole(choice) for choice in value])


def is_missed(value):
    """Whether any value is a tuple of ascending integers from 0."""
    if not isinstance(value, tuple) or not all([is_whole(number) and number >= 0 for number in value]):
        return False
    return all([one < other for one, other in zip(value, value[1:])])


def _outcome(done, course):
    """What the machine returns for a run."""
    return (done.row[1:], tuple(done.told), len(course.choices))


def _following(course, inputs):
    """The choices of the next runs in ascending order behind a course; None if there are none."""
    choices = list(course.choices)
    while choices:
        last = choices.pop()
        ways = course.ways[len(choices)]
        if ways > 0 and last + 1 < ways:
            return choices + [last + 1]
        if ways == 0 and last != inputs[-1]:
            return choices + [inputs[inputs.index(last) + 1]]
    return None

"""The places of a program."""

from freshplaces.kinds import is_whole


def is_place(program, name, place):
    """Whether any value is a place of a procedure."""
    return is_whole(place) and 0 <= place < len(list(program.statements(name)))


def is_spot(program, value):
    """Whether any value is a pair (procedure, place) of a program."""
    if not isinstance(value, tuple) or len(value) != 2:
        return False
    name, place = value
    return name in program and is_place(program, name, place)


def statement_at(program, name, place):
    """The statement at a place of a procedure."""
    return dict(program.statements(name))[place]


def running_names(program):
    """The list of the start and the procedures that it reaches, in the order of the program."""
    reached = program.reached(program.start)
    return [name for name in program.procedures if name == program.start or name in reached]


def uses_of(program):
    """The list of all uses in the start and in the procedures that it reaches."""
    return [use for name in running_names(program) for use in program.uses(name)]

"""Campaigns: many runs of a program, the uses that they expose, and how often statements begin in runs."""

from freshplaces.errors import InvalidChoices, InvalidEntry
from freshplaces.frames import Frame
from freshplaces.machine import Machine, are_choices


def campaign(program, entry, most, updates=(), *, inputs=(0, 1)):
    """Yields (choices, uses) for the runs of the machine, uses being those of kept variables that are not right."""
    machine = Machine(program, updates)
    for course, done in machine.performed_runs(entry, most, inputs):
        yield (list(course.choices), done.stale_uses_made)


def exposed(program, entry, most, updates=(), *, inputs=(0, 1)):
    """The list of the different uses of a campaign, in the order of the procedures and then of uses."""
    found = {}
    for _, uses in campaign(program, entry, most, updates, inputs=inputs):
        for use in uses:
            found[use] = True
    return [use for name in program.procedures for use in program.uses(name) if use in found]


def counted(program, entry, runs):
    """Weights: a dict from all pairs (procedure, place) to how often the statement begins in all runs."""
    if not Frame(program).is_entry(entry):
        raise InvalidEntry(entry)
    for choices in runs:
        if not are_choices(choices):
            raise InvalidChoices(choices)
    found = {(name, place): 0 for name in program.procedures for place, _ in program.statements(name)}
    machine = Machine(program)
    for choices in runs:
        visits = machine.visits(entry, choices)
        for spot, many in visits.items():
            found[spot] += many
    return found

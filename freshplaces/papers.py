"""Papers, which show that all uses are right: what a checker has to know of each while."""

from freshplaces.arguments import check_arguments
from freshplaces.codes import Code
from freshplaces.passes import Pass
from freshplaces.plans import plan_of
from freshplaces.rows import is_row, reduced
from freshplaces.walks import Walk


def paper(program, updates=(), start="right", faults=0):
    """A paper that is right; None if not all uses are right."""
    check_arguments(program, updates, start, faults)
    code = Code(program)
    walk = Walk(code, plan_of(program, code.frame, updates), code.frame.first_entries(start), faults)
    walk.go(True)
    if walk.stale_use_made is not None:
        return None
    found = []
    for index in loops_of(code):
        for many in range(faults + 1):
            rows = [trace.row for trace in walk.traces_at(index, many)]
            found.append(tuple(reduced(rows, code.frame.many + 1)))
    return tuple(found)


def is_paper(program, updates, value, start="right", faults=0):
    """Whether any value is a paper that is right."""
    check_arguments(program, updates, start, faults)
    code = Code(program)
    loops = loops_of(code)
    if not _is_of_form(value, len(loops) * (faults + 1), code.frame.many + 1):
        return False
    # A round begins with as many lists of rows as there are numbers of missed updates.
    given = {index: [list(rows) for rows in value[at * (faults + 1):(at + 1) * (faults + 1)]]
             for at, index in enumerate(loops)}
    return Pass(code, plan_of(program, code.frame, updates), given, faults).is_right(start)


def loops_of(code):
    """The list of the indexes of the loops of a code, in the order in which a pass begins the whiles."""
    return [index for index, step in enumerate(code.steps) if step.word == "loop"]


def _is_of_form(value, many, width):
    """Whether any value is a tuple of so many tuples of rows of a width."""
    if not isinstance(value, tuple) or len(value) != many:
        return False
    return all([isinstance(rows, tuple) and all([is_row(row, width) for row in rows]) for rows in value])

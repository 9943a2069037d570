"""What a procedure needs where it begins, so that kept variables are right in it and behind it."""

from freshplaces.actions import check_updates
from freshplaces.codes import Code
from freshplaces.errors import UnknownName, UnknownProcedure
from freshplaces.plans import plan_of
from freshplaces.walks import Walk, stale_run


def needs(program, name, updates=()):
    """The least set of kept variables that have to be right for all uses to be right; None if not even all suffice."""
    _check(program, name, updates)
    code = Code(program, name)
    plan = plan_of(program, code.frame, updates)
    return _least(program, code.frame, lambda entries: stale_run(code, plan, entries, 0) is None)


def leaves(program, name, kept, updates=()):
    """The least set of kept variables that have to be right for one to be right at the end; None if none suffices."""
    _check(program, name, updates)
    if not isinstance(kept, str) or kept not in program.kept:
        raise UnknownName(kept)
    code = Code(program, name)
    plan = plan_of(program, code.frame, updates)
    return _least(program, code.frame, lambda entries: _ends_right(code, plan, entries, kept))


def _check(program, name, updates):
    check_updates(program, updates)
    if name not in program:
        raise UnknownProcedure(name)


def _least(program, frame, suffices):
    """The least set of kept variables, right at the entries of which all runs begin, that suffices for something.

    What suffices for two sets suffices for what is in both, since entries of these two span all entries of that one.
    So the least set has just those kept variables without which all others do not suffice.
    """
    right = frame.first_entries("right")
    if not suffices(right):
        return None
    return tuple([kept for kept in program.kept if not suffices(right + [_wrong_entry(frame, kept)])])


def _wrong_entry(frame, kept):
    """An entry with a value for each variable, at which one kept variable alone is not right."""
    values = list(frame.row_of(frame.first_entries("right")[0]))
    values[frame.columns[kept]] += 1
    return tuple(values[1:])


def _ends_right(code, plan, entries, kept):
    """Whether a kept variable is right at the end of all runs."""
    walk = Walk(code, plan, entries, 0)
    walk.go(False)
    return all([code.frame.is_right(code.frame.columns[kept], trace.row) for trace in walk.endings()])

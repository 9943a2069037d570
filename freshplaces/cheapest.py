"""The updates of least cost with which all uses are right, and runs that refute all cheaper ones."""

from freshplaces.actions import check_updates, check_weights, cost_of_action, is_action
from freshplaces.arguments import check_arguments, check_faults, check_start
from freshplaces.codes import Code
from freshplaces.errors import InvalidAction, TooMany
from freshplaces.kinds import is_whole
from freshplaces.machine import is_missed
from freshplaces.papers import is_paper, paper
from freshplaces.plans import plan_of
from freshplaces.states import is_right
from freshplaces.trials import Trials
from freshplaces.walks import stale_run

MOST_CANDIDATES = 12


def cheapest(program, candidates, *, weights=None, start="right", faults=0):
    """A pair: the first cheapest updates with which all uses are right, or None; and runs that refute those before."""
    _check(program, candidates, weights, start, faults)
    return _found(program, candidates, weights, start, faults)


def cheapest_paper(program, candidates, *, weights=None, start="right", faults=0):
    """A tuple (updates, runs, paper): what cheapest returns, and a paper that shows that the updates are right."""
    _check(program, candidates, weights, start, faults)
    updates, found = _found(program, candidates, weights, start, faults)
    shown = None if updates is None else paper(program, updates, start, faults)
    return (updates, tuple(found), shown)


def is_cheapest(program, candidates, value, *, weights=None, start="right", faults=0):
    """Whether any value is a tuple as cheapest_paper returns, whoever wrote it."""
    _check(program, candidates, weights, start, faults)
    if not isinstance(value, tuple) or len(value) != 3:
        return False
    updates, given, shown = value
    if updates is not None and not _are_some(program, candidates, updates):
        return False
    trials = Trials(program, candidates)
    if not isinstance(given, tuple) or not all([_is_run(trials, run, start, faults) for run in given]):
        return False
    if updates is None and shown is not None:
        return False
    if updates is not None and not is_paper(program, updates, shown, start, faults):
        return False
    for run in given:
        trials.include(run)
    return all([trials.refute(before) for before in _before(program, candidates, weights, updates)])


def harmful(program, updates, action, *, start="right", faults=0):
    """A run that makes a use of what is not right because of one more action, if all uses are right without it."""
    check_arguments(program, updates, start, faults)
    if not is_action(program, action):
        raise InvalidAction(action)
    if action in updates or not is_right(program, updates, start, faults):
        return None
    code = Code(program)
    plan = plan_of(program, code.frame, updates + (action,))
    return stale_run(code, plan, code.frame.first_entries(start), faults)


def spare(program, updates, *, start="right", faults=0):
    """The list of the actions of the updates without which, each alone left out, all uses are right."""
    check_arguments(program, updates, start, faults)
    found = []
    for at, action in enumerate(updates):
        if is_right(program, updates[:at] + updates[at + 1:], start, faults):
            found.append(action)
    return found


def _check(program, candidates, weights, start, faults):
    check_updates(program, candidates)
    check_weights(program, weights)
    check_start(start)
    check_faults(faults)
    if len(candidates) > MOST_CANDIDATES:
        raise TooMany("candidates")


def _ordered(program, candidates, weights):
    """The list of all updates of the candidates, in their order: by cost, and then by the indexes."""
    costs = [cost_of_action(program, action, weights) for action in candidates]
    found = [(0, ())]
    for index, cost in enumerate(costs):
        found.extend([(total + cost, chosen + (index,)) for total, chosen in list(found)])
    return [tuple([candidates[at] for at in chosen]) for _, chosen in sorted(found)]


def _found(program, candidates, weights, start, faults):
    """What cheapest returns: whatever no run so far refutes is right, or there is one more run."""
    trials = Trials(program, candidates)
    entries = trials.code.frame.first_entries(start)
    found = []
    for updates in _ordered(program, candidates, weights):
        if trials.refute(updates):
            continue
        run = stale_run(trials.code, trials.plan(updates), entries, faults)
        if run is None:
            return (updates, found)
        found.append(run)
        trials.include(run)
    return (None, found)


def _before(program, candidates, weights, updates):
    """The list of the updates before some of the candidates; all if there are none."""
    ordered = _ordered(program, candidates, weights)
    return ordered if updates is None else ordered[:ordered.index(updates)]


def _are_some(program, candidates, value):
    """Whether any value is updates of the candidates."""
    if not isinstance(value, tuple):
        return False
    if not all([is_action(program, action) and action in candidates for action in value]):
        return False
    return all([one < other for one, other in zip(value, value[1:])])


def _is_run(trials, value, start, faults):
    """Whether any value is a tuple (entry, choices, missed) with an entry for start and few missed updates."""
    if not isinstance(value, tuple) or len(value) != 3:
        return False
    entry, choices, missed = value
    frame = trials.code.frame
    if not frame.is_entry(entry) or len(entry) != frame.length_of_entries(start):
        return False
    if not isinstance(choices, tuple) or not all([is_whole(choice) for choice in choices]):
        return False
    return is_missed(missed) and len(missed) <= faults

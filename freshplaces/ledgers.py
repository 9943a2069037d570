"""Ledgers, which show what a session does with its events to whoever does not trust it."""

from freshplaces.cheapest import cheapest_paper, is_cheapest
from freshplaces.drafts import Draft, draft_behind, word_between
from freshplaces.errors import FreshError


def ledger(session):
    """The ledger of a session: a pair of a first paper, and of tuples (event, word, paper)."""
    program, pool, start = session.beginning()
    draft = Draft(program, pool, {}, None)
    first = cheapest_paper(program, pool, start=start)
    draft.best = first[0]
    rows = []
    for event in session.journal():
        behind = draft_behind(draft, event)
        shown = cheapest_paper(behind.source, behind.offered, weights=behind.given, start=start)
        behind.best = shown[0]
        rows.append((event, word_between(draft.best, behind.best), shown))
        draft = behind
    return (first, tuple(rows))


def is_ledger(program, pool, value, *, start="right"):
    """Whether any value is a ledger of a session that begins with this program and pool, whoever wrote it."""
    is_pair = isinstance(value, tuple) and len(value) == 2
    first, rows = value if is_pair else (None, None)
    if not is_cheapest(program, pool, first, start=start) or not isinstance(rows, tuple):
        return False
    draft = Draft(program, pool, {}, None)
    draft.best = first[0]
    for row in rows:
        draft = _draft_behind_row(draft, row, start)
        if draft is None:
            return False
    return True


def _draft_behind_row(draft, row, start):
    """The draft to which any value as a row of a ledger leads; None if something in the row is not so."""
    if not isinstance(row, tuple) or len(row) != 3:
        return None
    event, word, shown = row
    try:
        behind = draft_behind(draft, event)
    except FreshError:
        return None
    if not is_cheapest(behind.source, behind.offered, shown, weights=behind.given, start=start):
        return None
    # A paper that is accepted has just the cheapest updates, so nothing has to be searched for.
    behind.best = shown[0]
    return behind if isinstance(word, str) and word == word_between(draft.best, behind.best) else None

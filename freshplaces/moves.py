"""What becomes of a row of values at a statement, in each way that choices and missed updates allow."""

from freshplaces.frames import assigned, renewed, valued

# All numbers that an input may take lie in the span of what these two lead to.
INPUTS = (0, 1)


def some_missed(many, most):
    """The list of the tuples of at most so many of the positions of many updates, the empty one first."""
    found = [()]
    for position in range(many):
        found.extend([missed + (position,) for missed in list(found) if len(missed) < most])
    return found


def renewals(deeds, row, most):
    """The list of the pairs (row behind the deeds that compute anew, positions of the missed ones)."""
    return [(_renewed_by(deeds, row, missed), missed) for missed in some_missed(len(deeds), most)]


def outcomes(step, deeds, row, most):
    """The list of the tuples (row behind a statement, positions of the missed deeds that carry, choices taken)."""
    if step.word == "fresh":
        return [(renewed(row, step.column, step.terms), (), ())]
    if step.word not in ("set", "input"):
        return [(row, (), ())]
    found = []
    for missed in some_missed(len(deeds), most):
        due = [(deed.column, deed.factor) for at, deed in enumerate(deeds) if at not in missed]
        carried = step.carried + due
        if step.word == "set":
            found.append((assigned(row, step.column, valued(step.terms, row), carried), missed, ()))
        else:
            # In a row that does not begin with 1, a number is that many times as much.
            found.extend([(assigned(row, step.column, number * row[0], carried), missed, (number,))
                          for number in INPUTS])
    return found


def _renewed_by(deeds, row, missed):
    for at, deed in enumerate(deeds):
        if at not in missed:
            row = renewed(row, deed.column, deed.terms)
    return row

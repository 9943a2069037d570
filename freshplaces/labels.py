"""Labels: where a kept variable is stale because something that it depends on has changed, and what this costs."""

from freshplaces.actions import check_updates, check_weights
from freshplaces.arguments import check_start
from freshplaces.flows import greatest_flow
from freshplaces.kinds import is_whole
from freshplaces.networks import FRESH, STALE, Network, check_plain, reached_points

LENGTHS_OF_POINTS = {"stale": 1, "fresh": 1, "begin": 2, "end": 2, "come": 3, "ready": 3, "gone": 3}


def coarse(program, kept, *, weights=None, start="right"):
    """A pair (updates, flow): updates of least cost that keep the labels, and a flow whose amount is this cost."""
    check_plain(program, kept)
    check_weights(program, weights)
    check_start(start)
    network = Network(program, kept, weights, start)
    flow, ahead = greatest_flow(network.bounds, STALE, FRESH)
    cut = [action for (one, other), action in network.actions.items() if one in ahead and other not in ahead]
    return (tuple(sorted(cut)), tuple(sorted([(pair, amount) for pair, amount in flow.items()])))


def flow_amount(program, kept, value, *, weights=None, start="right"):
    """The amount of any value that is a flow, otherwise None."""
    check_plain(program, kept)
    check_weights(program, weights)
    check_start(start)
    if not isinstance(value, tuple) or not all([_is_part(part) for part in value]):
        return None
    bounds = Network(program, kept, weights, start).bounds
    if not all([_can_flow(bounds, pair, amount) for pair, amount in value]):
        return None
    if len({pair: True for pair, _ in value}) < len(value):
        return None
    surplus = {STALE: 0, FRESH: 0}
    for (one, other), amount in value:
        surplus[one] = surplus.get(one, 0) - amount
        surplus[other] = surplus.get(other, 0) + amount
    if any([number for point, number in surplus.items() if point not in (STALE, FRESH)]):
        return None
    return -surplus[STALE]


def keeps_labels(program, kept, updates=(), *, start="right"):
    """Whether updates keep the labels: whether no use is reached by a way on which the kept variable is stale."""
    check_plain(program, kept)
    check_start(start)
    check_updates(program, updates)
    network = Network(program, kept, None, start)
    left = [pair for pair in network.bounds if pair not in network.actions or network.actions[pair] not in updates]
    return FRESH not in reached_points(left, STALE)


def _is_part(value):
    """Whether any value is a pair (pair of points, amount) by its form."""
    if not isinstance(value, tuple) or len(value) != 2:
        return False
    pair, amount = value
    if not isinstance(pair, tuple) or len(pair) != 2 or not all([_is_point(point) for point in pair]):
        return False
    return is_whole(amount) and amount > 0


def _is_point(value):
    """Whether any value has the form of a point."""
    if not isinstance(value, tuple) or len(value) == 0:
        return False
    if not all([isinstance(part, str) for part in value[:2]]) or not all([is_whole(part) for part in value[2:]]):
        return False
    return value[0] in LENGTHS_OF_POINTS and len(value) == LENGTHS_OF_POINTS[value[0]]


def _can_flow(bounds, pair, amount):
    return pair in bounds and (bounds[pair] is None or amount <= bounds[pair])

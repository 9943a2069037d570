"""The greatest flow through a network."""


def greatest_flow(bounds, first, last):
    """A pair: a dict from the pairs of points to the amounts of a greatest flow, and the points ahead of a least cut.

    bounds has for each pair how much can flow there, None without a bound. No way from the first point to the last
    one has pairs without a bound alone. The points are the keys of a dict.
    """
    flow = {pair: 0 for pair in bounds}
    sides = _sides(bounds)
    came = _came_from(bounds, flow, sides, first, last)
    while last in came:
        _push(bounds, flow, _way(came, last))
        came = _came_from(bounds, flow, sides, first, last)
    return ({pair: amount for pair, amount in flow.items() if amount > 0}, came)


def _sides(bounds):
    """A dict from each point to the list of the pairs in which it stands."""
    found = {}
    for one, other in bounds:
        found.setdefault(one, []).append((one, other))
        found.setdefault(other, []).append((one, other))
    return found


def _left(bounds, flow, pair, is_forward):
    """How much more can flow along a pair, or against it; None without a bound."""
    if not is_forward:
        return flow[pair]
    return None if bounds[pair] is None else bounds[pair] - flow[pair]


def _came_from(bounds, flow, sides, first, last):
    """From where a search by breadth came to each point: pairs (pair, whether along it)."""
    found = {first: None}
    waiting = [first]
    at = 0
    while at < len(waiting) and last not in found:
        point = waiting[at]
        at += 1
        for pair in sides.get(point, []):
            is_forward = pair[0] == point
            other = pair[1] if is_forward else pair[0]
            if other not in found and _left(bounds, flow, pair, is_forward) != 0:
                found[other] = (pair, is_forward)
                waiting.append(other)
    return found


def _way(came, last):
    """The list of the pairs (pair, whether along it) by which a search came to the last point."""
    found = []
    point = last
    while came[point] is not None:
        pair, is_forward = came[point]
        found.append((pair, is_forward))
        point = pair[0] if is_forward else pair[1]
    return found


def _push(bounds, flow, way):
    """Lets as much flow along a way as it can take."""
    left = [_left(bounds, flow, pair, is_forward) for pair, is_forward in way]
    amount = min([number for number in left if number is not None])
    for pair, is_forward in way:
        flow[pair] += amount if is_forward else -amount

"""Values of many kinds, for arguments that may be any value."""


class Agreeing:
    """Says that it equals everything, and has no hash."""

    def __eq__(self, other):
        return True


class Plain:
    pass


def strange_values():
    """Values that are no integer above 0, no string, no tuple with anything in it, and nothing of the package."""
    return [None, True, False, 0, -1, 1.5, b'a', b'', [], ['a'], (), {}, {'a': 1}, set(), {1}, Plain(), Agreeing(),
            object, len, 2 + 3j, range(3)]

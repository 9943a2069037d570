"""Spans of rows that come one after the other."""

from freshplaces.rows import product, without_factor


class Span:
    """The span of the rows that it took.

    It is kept as equations: independent rows whose product with just the rows of the span is 0.
    """

    def __init__(self, width):
        self._equations = [tuple([1 if at == place else 0 for at in range(width)]) for place in range(width)]

    def takes(self, row):
        """Takes a row unless those before span it, and returns whether it does."""
        products = [product(equation, row) for equation in self._equations]
        if not any(products):
            return False
        first = [at for at, number in enumerate(products) if number != 0][0]
        self._equations = [self._solved(at, first, products) for at in range(len(products)) if at != first]
        return True

    def _solved(self, at, first, products):
        """An equation, changed by the first one so that its product with the new row is 0."""
        if products[at] == 0:
            return self._equations[at]
        return without_factor([number * products[first] - other * products[at]
                               for number, other in zip(self._equations[at], self._equations[first])])

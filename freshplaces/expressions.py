"""Expressions: pairs of a constant and of terms, which are pairs (variable, factor) in ascending order."""


def expression_of(constant, pairs):
    """The expression of a constant and of a list of pairs (variable, factor), in which variables may recur."""
    factors = {}
    for variable, factor in pairs:
        factors[variable] = factors.get(variable, 0) + factor
    terms = [(variable, factors[variable]) for variable in sorted(factors) if factors[variable] != 0]
    return (constant, tuple(terms))


def variables_of(expression):
    """The list of the variables of an expression, in ascending order."""
    return [variable for variable, _ in expression[1]]


def substituted(expression, formulas):
    """The expression in which each variable that is a key of formulas is replaced by its formula."""
    constant, terms = expression
    pairs = []
    for variable, factor in terms:
        number, parts = formulas.get(variable, (0, ((variable, 1),)))
        constant = constant + factor * number
        pairs.extend([(part, factor * times) for part, times in parts])
    return expression_of(constant, pairs)


def unfolded_formulas(kept):
    """A dict from each kept variable to its unfolded formula, for the pairs (name, expression) of a tree."""
    found = {}
    for name, formula in kept:
        found[name] = substituted(formula, found)
    return found

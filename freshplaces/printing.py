"""Writes trees and expressions as texts."""


def show(tree):
    """The text of a tree."""
    base, kept, handlers, procedures = tree
    lines = ["base " + " ".join(base)]
    for name, formula in kept:
        lines.append("kept " + name + " = " + show_expression(formula))
    if handlers:
        lines.append("handlers " + " ".join(handlers))
    for name, block in procedures:
        lines.extend(procedure_lines(name, block))
    return "".join([line + "\n" for line in lines])


def procedure_lines(name, block):
    """The list of the lines of a procedure."""
    return _lines_with("def " + name, block, "")


def show_expression(expression):
    """The text of an expression."""
    constant, terms = expression
    signed = [(factor, _product_text(abs(factor), variable)) for variable, factor in terms]
    if constant != 0 or not terms:
        signed.append((constant, str(abs(constant))))
    first, text = signed[0]
    parts = ["-" + text if first < 0 else text]
    for number, text in signed[1:]:
        parts.append(" - " + text if number < 0 else " + " + text)
    return "".join(parts)


def _product_text(factor, variable):
    return variable if factor == 1 else str(factor) + "*" + variable


def _lines_with(head, block, indent):
    """The lines of a head and its block."""
    lines = [indent + head + " {"]
    for statement in block:
        lines.extend(_statement_lines(statement, indent + "  "))
    lines.append(indent + "}")
    return lines


def _statement_lines(statement, indent):
    word = statement[0]
    if word == "while":
        return _lines_with("while", statement[1], indent)
    if word == "if":
        return _choice_lines(statement, indent)
    return [indent + _plain_text(statement)]


def _choice_lines(statement, indent):
    _, block, other = statement
    lines = _lines_with("if", block, indent)
    if not other:
        return lines
    rest = _lines_with("} else", other, indent)
    return lines[:-1] + rest


def _plain_text(statement):
    """The text of a statement without blocks."""
    word = statement[0]
    if word == "set":
        _, variable, expression, carried = statement
        return variable + " = " + show_expression(expression) + _carry_text(carried)
    if word == "input":
        _, variable, carried = statement
        return variable + " = ?" + _carry_text(carried)
    if word == "tell":
        return "tell " + show_expression(statement[1])
    return " ".join(statement)


def _carry_text(carried):
    return " carry " + ", ".join(carried) if carried else ""

"""The values of expressions at a row."""

from tideweir.expressions.trees import parts_of
from tideweir.values.order import value_order
from tideweir.values.rows import LARGEST, column_index, type_of_value


def evaluate(expression, fields, row):
    """Return the value of an expression at a row of some fields; it has a type for these fields."""
    value = unbounded(expression, fields, row)
    if type_of_value(value) == "whole" and abs(value) > LARGEST:
        return None
    return value


def unbounded(expression, fields, row):
    """Return the value of an expression, which may be an integer that is too large."""
    word = expression[0]
    if word == "column":
        return row[column_index(fields, expression[1])]
    if word == "value":
        return expression[1]
    values = [evaluate(part, fields, row) for part in parts_of(expression)]
    if word == "null":
        return values[0] is None
    if word == "pick":
        return values[1] if values[0] is True else values[2]
    if word == "binary":
        return of_two(expression[1], values[0], values[1])
    if values[0] is None:
        return None
    return not values[0] if word == "not" else len(values[0])


def of_two(sign, a, b):
    """Return what a sign makes of two values."""
    if sign == "and":
        return both(a, b)
    if sign == "or":
        return either(a, b)
    if a is None or b is None:
        return None
    if sign in ("==", "<", "<="):
        return compare(sign, value_order(a), value_order(b))
    return calculate(sign, a, b)


def both(a, b):
    """Return False if one of two flags is False, otherwise None if one is None, otherwise True."""
    if a is False or b is False:
        return False
    return None if a is None or b is None else True


def either(a, b):
    """Return True if one of two flags is True, otherwise None if one is None, otherwise False."""
    if a is True or b is True:
        return True
    return None if a is None or b is None else False


def compare(sign, a, b):
    """Return whether two orders of values stand to each other as the sign says."""
    if sign == "==":
        return a == b
    return a < b if sign == "<" else a <= b


def calculate(sign, a, b):
    """Return the result of arithmetic, None for a quotient by 0."""
    if sign == "+":
        return a + b
    if sign == "-":
        return a - b
    if sign == "*":
        return a * b
    return None if b == 0 else a // b

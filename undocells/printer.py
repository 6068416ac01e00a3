"""Readings printed as the shortest text."""

from undocells.readings import STRENGTHS, TOP_STRENGTH
from undocells.words import SHIFT_SIGNS


def print_expression(expression):
    """The shortest text of an expression."""
    return bound_text(expression, 0)


def strength_of(expression):
    """How strongly the outermost operator of an expression binds."""
    if expression[0] == "op" and expression[1][0] in STRENGTHS:
        return STRENGTHS[expression[1][0]]
    return TOP_STRENGTH


def bound_text(expression, least):
    """The text of an expression, in brackets if it binds less strongly than this."""
    text = bare_expression(expression)
    return f"({text})" if strength_of(expression) < least else text


def bare_expression(expression):
    """The text of an expression without brackets around it."""
    if expression[0] == "number":
        return str(expression[1])
    if expression[0] == "name":
        return expression[1]
    if expression[0] == "call":
        return listed_text(expression[1], expression[2])
    kind, parts = expression[1], expression[2]
    if kind[0] == "table":
        numbers = ",".join([str(number) for number in kind[1]])
        return listed_text(f"table[{numbers}]", parts)
    if kind[0] == "pick":
        return listed_text("pick", parts)
    strength = STRENGTHS[kind[0]]
    left = bound_text(parts[0], strength)
    # operators of equal strength group to the left, so only the right side wants more
    right = str(kind[1]) if kind[0] in SHIFT_SIGNS else bound_text(parts[1], strength + 1)
    return left + kind[0] + right


def listed_text(head, parts):
    """Expressions within brackets behind a head."""
    inner = ",".join([print_expression(part) for part in parts])
    return f"{head}({inner})"


def worded_text(word, expression):
    """A keyword and the expression behind it, with a blank only where they would grow together."""
    text = print_expression(expression)
    return word + text if text[0] == "(" else f"{word} {text}"


def print_text(reading):
    """The shortest text of a reading."""
    return "".join([fun_text(fun) for fun in reading.funs])


def fun_text(fun):
    """The text of a fun."""
    name, parameters, body, result = fun
    names = ",".join(parameters)
    given = worded_text("give", result)
    return f"fun {name}({names})" + braced(body_text(body) + given + ";")


def braced(text):
    """A text within braces."""
    return "{" + text + "}"


def body_text(body):
    """The texts of statements one behind the other."""
    return "".join([statement_text(statement) for statement in body])


def statement_text(statement):
    """The text of a statement."""
    if statement[0] == "repeat":
        return f"repeat {statement[1]}" + braced(body_text(statement[2]))
    if statement[0] == "if":
        bodies = [braced(body_text(body)) for body in statement[2:]]
        return worded_text("if", statement[1]) + "else".join(bodies)
    word = "let " if statement[0] == "let" else ""
    return f"{word}{statement[1]}={print_expression(statement[2])};"

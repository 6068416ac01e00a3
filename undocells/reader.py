"""Texts of the plain language read from left to right, with the depth of all that is read."""

from undocells.errors import BadName, BadText
from undocells.lex import cut_text, is_sign, take_name, take_number, take_sign
from undocells.readings import STRENGTHS, Reading
from undocells.words import SHIFT_SIGNS, TABLE_SIZES

MOST_TEXT = 3000
MOST_FUNS = 20
MOST_PARAMETERS = 6
MOST_TIMES = 16
MOST_DEPTH = 60


def check_depth(depth, spot):
    """The depth itself, if it is not too great."""
    if depth > MOST_DEPTH:
        raise BadText(spot, "deep")
    return depth


def read_expression(tokens, at, names, funs):
    """The expression that begins at this token, and the number of the token behind it."""
    expression, _, at = read_deep(tokens, at, names, funs, 0)
    return expression, at


def read_deep(tokens, at, names, funs, least):
    """(expression, its depth, token behind) with all operators of at least this strength."""
    one, depth, at = read_part(tokens, at, names, funs)
    while tokens[at][0] == "sign" and STRENGTHS.get(tokens[at][1], -1) >= least:
        _, sign, spot = tokens[at]
        if sign in SHIFT_SIGNS:
            number, at = take_number(tokens, at + 1)
            one = ("op", (sign, number), (one,))
        else:
            other, other_depth, at = read_deep(tokens, at + 1, names, funs, STRENGTHS[sign] + 1)
            one = ("op", (sign,), (one, other))
            depth = max(depth, other_depth)
        depth = check_depth(depth + 1, spot)
    return one, depth, at


def read_part(tokens, at, names, funs):
    """(expression, its depth, token behind) of an expression without operators around it."""
    kind, value, _ = tokens[at]
    if kind == "number":
        return ("number", value), 1, at + 1
    if kind == "name":
        return read_named(tokens, at, names, funs)
    if is_sign(tokens[at], "pick"):
        return read_pick(tokens, at, names, funs)
    if is_sign(tokens[at], "table"):
        return read_table(tokens, at, names, funs)
    at = take_sign(tokens, at, "(")
    expression, depth, at = read_deep(tokens, at, names, funs, 0)
    return expression, depth, take_sign(tokens, at, ")")


def read_named(tokens, at, names, funs):
    """A name alone, or a call."""
    _, name, spot = tokens[at]
    if is_sign(tokens[at + 1], "("):
        return read_call(tokens, at, names, funs)
    if names is not None and name not in names:
        raise BadName(spot, "unknown")
    return ("name", name), 1, at + 1


def read_call(tokens, at, names, funs):
    """A call; the fun is looked for before its expressions are read."""
    _, name, spot = tokens[at]
    found = [fun for fun in funs if fun[0] == name]
    if not found:
        raise BadName(spot, "elder")
    parts, depth, at = read_parts(tokens, at + 2, names, funs)
    _, many, fun_depth = found[0]
    if len(parts) != many:
        raise BadName(spot, "many")
    depth = check_depth(1 + max(depth, fun_depth), spot)
    return ("call", name, parts), depth, at


def read_parts(tokens, at, names, funs):
    """The expressions of a call from behind its first bracket on, and their greatest depth."""
    if is_sign(tokens[at], ")"):
        return (), 0, at + 1
    parts, greatest = [], 0
    while True:
        part, depth, at = read_deep(tokens, at, names, funs, 0)
        parts.append(part)
        greatest = max(greatest, depth)
        if not is_sign(tokens[at], ","):
            return tuple(parts), greatest, take_sign(tokens, at, ")")
        at += 1


def read_pick(tokens, at, names, funs):
    """A pick of three expressions."""
    spot = tokens[at][2]
    at = take_sign(tokens, at + 1, "(")
    one, one_depth, at = read_deep(tokens, at, names, funs, 0)
    at = take_sign(tokens, at, ",")
    two, two_depth, at = read_deep(tokens, at, names, funs, 0)
    at = take_sign(tokens, at, ",")
    three, three_depth, at = read_deep(tokens, at, names, funs, 0)
    at = take_sign(tokens, at, ")")
    depth = check_depth(1 + max(one_depth, two_depth, three_depth), spot)
    return ("op", ("pick",), (one, two, three)), depth, at


def read_table(tokens, at, names, funs):
    """A table with its numbers and its one expression."""
    spot = tokens[at][2]
    numbers, at = read_numbers(tokens, take_sign(tokens, at + 1, "["))
    at = take_sign(tokens, at, "(")
    part, depth, at = read_deep(tokens, at, names, funs, 0)
    at = take_sign(tokens, at, ")")
    return ("op", ("table", numbers), (part,)), check_depth(depth + 1, spot), at


def read_numbers(tokens, at):
    """The numbers of a table from behind its first bracket on."""
    number, at = take_number(tokens, at)
    numbers = [number]
    while is_sign(tokens[at], ","):
        number, at = take_number(tokens, at + 1)
        numbers.append(number)
    behind = take_sign(tokens, at, "]")
    if len(numbers) not in TABLE_SIZES:
        raise BadText(tokens[at][2], "many")
    return tuple(numbers), behind


def read_text(text):
    """The reading of a text of the plain language."""
    tokens = cut_text(text, MOST_TEXT)
    funs, heads, at = [], [], 0
    while not funs or tokens[at][0] != "end":
        fun, depth, at = read_fun(tokens, at, tuple(heads))
        funs.append(fun)
        heads.append((fun[0], len(fun[1]), depth))
    return Reading(tuple(funs))


def read_fun(tokens, at, funs):
    """(fun, its depth, token behind); funs are the elder ones, as for an expression."""
    spot = tokens[at][2]
    at = take_sign(tokens, at, "fun")
    if len(funs) == MOST_FUNS:
        raise BadText(spot, "many")
    spot = tokens[at][2]
    name, at = take_name(tokens, at)
    if name in [fun[0] for fun in funs]:
        raise BadName(spot, "twice")
    parameters, at = read_parameters(tokens, take_sign(tokens, at, "("))
    at = take_sign(tokens, at, "{")
    body, names, depth, at = read_statements(tokens, at, parameters, funs)
    at = take_sign(tokens, at, "give")
    result, result_depth, at = read_deep(tokens, at, names, funs, 0)
    at = take_sign(tokens, take_sign(tokens, at, ";"), "}")
    return (name, parameters, body, result), max(depth, result_depth), at


def read_parameters(tokens, at):
    """The parameters of a fun from behind the first bracket on."""
    if is_sign(tokens[at], ")"):
        return (), at + 1
    names = []
    while True:
        spot = tokens[at][2]
        name, at = take_name(tokens, at)
        if len(names) == MOST_PARAMETERS:
            raise BadText(spot, "many")
        if name in names:
            raise BadName(spot, "twice")
        names.append(name)
        if not is_sign(tokens[at], ","):
            return tuple(names), take_sign(tokens, at, ")")
        at += 1


def read_statements(tokens, at, names, funs):
    """(statements, names visible behind them, their greatest depth, token behind)."""
    statements, greatest = [], 0
    while tokens[at][0] == "name" or tokens[at][1] in ("let", "repeat", "if"):
        statement, depth, at = read_statement(tokens, at, names, funs)
        statements.append(statement)
        greatest = max(greatest, depth)
        if statement[0] == "let":
            names = (*names, statement[1])
    return tuple(statements), names, greatest, at


def read_block(tokens, at, names, funs):
    """(statements, their greatest depth, token behind) of statements within braces."""
    at = take_sign(tokens, at, "{")
    statements, _, depth, at = read_statements(tokens, at, names, funs)
    return statements, depth, take_sign(tokens, at, "}")


def read_statement(tokens, at, names, funs):
    """(statement, its depth, token behind)."""
    if is_sign(tokens[at], "let"):
        return read_let(tokens, at, names, funs)
    if is_sign(tokens[at], "repeat"):
        return read_repeat(tokens, at, names, funs)
    if is_sign(tokens[at], "if"):
        return read_if(tokens, at, names, funs)
    _, name, spot = tokens[at]
    if name not in names:
        raise BadName(spot, "unknown")
    return read_change("set", name, tokens, at + 1, names, funs)


def read_let(tokens, at, names, funs):
    """A let; its own expression does not see its name."""
    spot = tokens[at + 1][2]
    name, at = take_name(tokens, at + 1)
    if name in names:
        raise BadName(spot, "twice")
    return read_change("let", name, tokens, at, names, funs)


def read_change(word, name, tokens, at, names, funs):
    """What stands behind the name of a let or an assignment."""
    at = take_sign(tokens, at, "=")
    expression, depth, at = read_deep(tokens, at, names, funs, 0)
    return (word, name, expression), depth, take_sign(tokens, at, ";")


def read_repeat(tokens, at, names, funs):
    """A repeat with its number and its body."""
    spot = tokens[at][2]
    times, behind = take_number(tokens, at + 1)
    if times > MOST_TIMES:
        raise BadText(tokens[at + 1][2], "many")
    body, depth, at = read_block(tokens, behind, names, funs)
    return ("repeat", times, body), check_depth(depth + 1, spot), at


def read_if(tokens, at, names, funs):
    """An if with its two bodies."""
    spot = tokens[at][2]
    test, depth, at = read_deep(tokens, at + 1, names, funs, 0)
    yes, yes_depth, at = read_block(tokens, at, names, funs)
    no, no_depth, at = read_block(tokens, take_sign(tokens, at, "else"), names, funs)
    depth = check_depth(1 + max(depth, yes_depth, no_depth), spot)
    return ("if", test, yes, no), depth, at

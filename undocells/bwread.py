"""Texts of the language of both ways read from left to right."""

from undocells.bwprogs import Program
from undocells.errors import BadText
from undocells.lex import cut_text, is_sign, take_name, take_sign
from undocells.reader import read_expression

MOST_PROGRAM_TEXT = 60000
CHANGES = {"+=": "add", "-=": "sub", "^=": "xor"}


def read_program(text):
    """The program of a text of the language of both ways."""
    tokens = cut_text(text, MOST_PROGRAM_TEXT)
    routines, at = [], 0
    while not routines or tokens[at][0] != "end":
        routine, at = read_routine(tokens, at)
        routines.append(routine)
    return Program(routines)


def read_routine(tokens, at):
    """A routine, and the number of the token behind it, as in all that follows."""
    name, at = take_name(tokens, take_sign(tokens, at, "routine"))
    names, at = read_names(tokens, at)
    body, at = read_block(tokens, at)
    return (name, names, body), at


def read_names(tokens, at):
    """The names within brackets."""
    at = take_sign(tokens, at, "(")
    if is_sign(tokens[at], ")"):
        return (), at + 1
    name, at = take_name(tokens, at)
    names = [name]
    while is_sign(tokens[at], ","):
        name, at = take_name(tokens, at + 1)
        names.append(name)
    return tuple(names), take_sign(tokens, at, ")")


def read_block(tokens, at):
    """The statements within braces."""
    at = take_sign(tokens, at, "{")
    statements = []
    while not is_sign(tokens[at], "}"):
        statement, at = read_statement(tokens, at)
        statements.append(statement)
    return tuple(statements), at + 1


def read_worth(tokens, at):
    """An expression, which may name anything and call nothing."""
    return read_expression(tokens, at, None, ())


def read_last(tokens, at):
    """The expression at the end of a statement."""
    expression, at = read_worth(tokens, at)
    return expression, take_sign(tokens, at, ";")


def read_statement(tokens, at):
    """One statement."""
    if is_sign(tokens[at], "if"):
        return read_forked(tokens, at, ("if", "else", "fi"))
    if is_sign(tokens[at], "from"):
        return read_forked(tokens, at, ("from", "loop", "until"))
    if is_sign(tokens[at], "local"):
        return read_local(tokens, at + 1)
    if is_sign(tokens[at], "call") or is_sign(tokens[at], "back"):
        word = tokens[at][1]
        name, at = take_name(tokens, at + 1)
        names, at = read_names(tokens, at)
        return (word, name, names), take_sign(tokens, at, ";")
    name, at = take_name(tokens, at)
    if is_sign(tokens[at], "<=>"):
        other, at = take_name(tokens, at + 1)
        return ("swap", name, other), take_sign(tokens, at, ";")
    _, sign, spot = tokens[at]
    if sign not in CHANGES:
        raise BadText(spot, "want")
    expression, at = read_last(tokens, at + 1)
    return (CHANGES[sign], name, expression), at


def read_forked(tokens, at, words):
    """A statement with two expressions and two blocks, told by its three keywords."""
    first, at = read_worth(tokens, at + 1)
    one, at = read_block(tokens, at)
    other, at = read_block(tokens, take_sign(tokens, at, words[1]))
    last, at = read_last(tokens, take_sign(tokens, at, words[2]))
    return (words[0], first, one, other, last), at


def read_local(tokens, at):
    """A local from behind its keyword on; both its names are one."""
    name, at = take_name(tokens, at)
    first, at = read_worth(tokens, take_sign(tokens, at, "="))
    body, at = read_block(tokens, at)
    at = take_sign(tokens, at, "end")
    spot = tokens[at][2]
    again, at = take_name(tokens, at)
    if again != name:
        raise BadText(spot, "want")
    last, at = read_last(tokens, take_sign(tokens, at, "="))
    return ("local", name, first, body, last), at

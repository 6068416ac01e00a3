"""Programs of the language of both ways turned about, and programs that copy a word out."""

from undocells.bwprogs import Program
from undocells.bwrun import TURNED_WORDS
from undocells.errors import NoName


def turned_body(body):
    """The statements turned about."""
    return tuple([turned_statement(statement) for statement in body[::-1]])


def turned_statement(statement):
    """One statement turned about."""
    word = statement[0]
    if word in ("if", "from"):
        _, first, one, other, last = statement
        return (word, last, turned_body(one), turned_body(other), first)
    if word == "local":
        _, name, first, body, last = statement
        return (word, name, last, turned_body(body), first)
    return (TURNED_WORDS.get(word, word), *statement[1:])


def turned_about(program):
    """The program with its last routine turned about."""
    name, parameters, body = program.routines[-1]
    return Program([*program.routines[:-1], (name, parameters, turned_body(body))])


def first_free(stem, taken):
    """The stem with the least number behind it that is not taken."""
    number = 0
    while f"{stem}{number}" in taken:
        number += 1
    return f"{stem}{number}"


def copied_out(program, shown):
    """The program with a routine that runs it, copies a word out, and runs it back."""
    if shown not in program.names:
        raise NoName(shown)
    called = program.routines[-1][0]
    copy = first_free("copy", [routine[0] for routine in program.routines])
    out = first_free("out", program.names)
    body = (("call", called, program.names), ("xor", out, ("name", shown)), ("back", called, program.names))
    return Program([*program.routines, (copy, (*program.names, out), body)])

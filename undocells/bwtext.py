"""Programs of the language of both ways printed as the shortest text."""

from undocells.printer import braced, print_expression, worded_text

CHANGE_SIGNS = {"add": "+=", "sub": "-=", "xor": "^="}
FORK_WORDS = {"if": ("else", "fi"), "from": ("loop", "until")}


def program_text(program):
    """The shortest text of a program."""
    return "".join([routine_text(routine) for routine in program.routines])


def routine_text(routine):
    """The text of a routine."""
    name, parameters, body = routine
    return f"routine {name}" + names_text(parameters) + block_text(body)


def names_text(names):
    """The names within brackets."""
    listed = ",".join(names)
    return f"({listed})"


def block_text(block):
    """The statements of a block within braces."""
    return braced("".join([statement_text(statement) for statement in block]))


def statement_text(statement):
    """The text of a statement."""
    word = statement[0]
    if word in ("call", "back"):
        return f"{word} {statement[1]}" + names_text(statement[2]) + ";"
    if word == "swap":
        return f"{statement[1]}<=>{statement[2]};"
    if word in CHANGE_SIGNS:
        return statement[1] + CHANGE_SIGNS[word] + print_expression(statement[2]) + ";"
    if word == "local":
        return local_text(statement)
    _, first, one, other, last = statement
    between, behind = FORK_WORDS[word]
    head = worded_text(word, first) + block_text(one) + between + block_text(other)
    return head + worded_text(behind, last) + ";"


def local_text(statement):
    """The text of a local."""
    _, name, first, body, last = statement
    return f"local {name}={print_expression(first)}" + block_text(body) + f"end {name}={print_expression(last)};"

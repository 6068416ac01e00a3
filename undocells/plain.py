"""The plain meaning of expressions and programs."""

from undocells.errors import TooMany
from undocells.readings import drawn_size
from undocells.words import check_inputs, check_width, step_word

MOST_DRAWN = 4000


def expression_word(expression, names, width):
    """The word of an expression without calls; names tells the word of each name."""
    return worked_out(expression, names, width, {})


def worked_out(expression, names, width, funs):
    """The word of an expression; funs tells the fun of each name."""
    if expression[0] == "number":
        return expression[1] & (1 << width) - 1
    if expression[0] == "name":
        return names[expression[1]]
    words = [worked_out(part, names, width, funs) for part in expression[2]]
    if expression[0] == "call":
        return fun_word(funs[expression[1]], words, width, funs)
    return step_word(expression[1], words, width)


def fun_word(fun, words, width, funs):
    """The word that a fun gives on these words."""
    _, parameters, body, result = fun
    names = dict(zip(parameters, words))
    run_statements(body, names, width, funs)
    return worked_out(result, names, width, funs)


def run_statements(body, names, width, funs):
    """Statements done in order; names tells the words, and is changed."""
    for statement in body:
        if statement[0] == "repeat":
            for _ in range(statement[1]):
                run_statements(statement[2], names, width, funs)
        elif statement[0] == "if":
            holds = worked_out(statement[1], names, width, funs) != 0
            run_statements(statement[2] if holds else statement[3], names, width, funs)
        else:
            # the let names of an ended body may stay: a reading names them only behind another let
            names[statement[1]] = worked_out(statement[2], names, width, funs)


def plain_worth(reading, width, inputs):
    """The word that the program gives on its inputs."""
    check_width(width)
    words = check_inputs(inputs, len(reading.program[1]), width)
    if drawn_size(reading) > MOST_DRAWN:
        raise TooMany(MOST_DRAWN)
    funs = {fun[0]: fun for fun in reading.funs}
    return fun_word(reading.program, words, width, funs)

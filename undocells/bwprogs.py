"""Programs of the language of both ways: what they may be, and what is wrong with others."""

from undocells.basics import is_sequence
from undocells.errors import BadKind, BadProgram, NoRoutine
from undocells.lex import is_name
from undocells.readings import names_in
from undocells.words import check_kind, is_number, operand_count

MOST_ROUTINES = 20
MOST_HANDED = 206
MOST_AROUND = 20
MOST_LEVELS = 60

# What stands behind the word of a statement: n a name, e an expression, b a block, l a tuple of names.
FORMS = {
    "add": "ne", "sub": "ne", "xor": "ne", "swap": "nn", "if": "ebbe", "from": "ebbe", "local": "nebe",
    "call": "nl", "back": "nl",
}


def is_kind(thing):
    """Whether it is the kind of a step."""
    try:
        check_kind(thing)
    except BadKind:
        return False
    return True


def is_expression(thing):
    """Whether it is an expression without calls."""
    if not isinstance(thing, tuple) or len(thing) < 2:
        return False
    if len(thing) == 2:
        return thing[0] == "number" and is_number(thing[1]) or thing[0] == "name" and isinstance(thing[1], str)
    if len(thing) > 3 or thing[0] != "op" or not is_kind(thing[1]) or not isinstance(thing[2], tuple):
        return False
    return len(thing[2]) == operand_count(thing[1]) and all([is_expression(part) for part in thing[2]])


def is_strings(thing):
    """Whether it is a tuple of strings."""
    return isinstance(thing, tuple) and all([isinstance(part, str) for part in thing])


def fits(thing, letter):
    """Whether it can stand in a statement where its form has this letter."""
    if letter == "n":
        return isinstance(thing, str)
    if letter == "e":
        return is_expression(thing)
    return isinstance(thing, tuple) if letter == "b" else is_strings(thing)


def is_statement(thing):
    """Whether it has the form of a statement; its blocks are not looked into."""
    if not isinstance(thing, tuple) or thing == () or not isinstance(thing[0], str) or thing[0] not in FORMS:
        return False
    form = FORMS[thing[0]]
    return len(thing) == 1 + len(form) and all([fits(part, letter) for part, letter in zip(thing[1:], form)])


def parts_of(statement, letter):
    """The parts of a statement where its form has this letter, in order."""
    return [part for part, other in zip(statement[1:], FORMS[statement[0]]) if other == letter]


def used_names(statement):
    """The names that a statement changes, exchanges or hands on, or makes."""
    return list(statement[2]) if statement[0] in ("call", "back") else parts_of(statement, "n")


def is_badly_named(statement, visible):
    """Whether a name that it uses is not visible, or its local has no name of its own."""
    if statement[0] == "local":
        return not is_name(statement[1]) or statement[1] in visible
    return not all([name in visible for name in used_names(statement)])


def is_same(statement):
    """Whether it changes a name by itself, or uses a name twice."""
    used = used_names(statement)
    if statement[0] in ("add", "sub", "xor"):
        return statement[1] in names_in(statement[2])
    return len(set(used)) < len(used)


def statement_fault(statement, visible, around, elders):
    """None, or the first word of what is wrong with a statement that stands within so many others."""
    if around > MOST_AROUND:
        return "level"
    if not is_statement(statement):
        return "form"
    if is_badly_named(statement, visible):
        return "name"
    if not all([name in visible for expression in parts_of(statement, "e") for name in names_in(expression)]):
        return "unknown"
    if is_same(statement):
        return "same"
    if statement[0] not in ("call", "back"):
        return None
    if statement[1] not in elders:
        return "routine"
    return "many" if len(statement[2]) != elders[statement[1]][0] else None


def check_block(block, where, visible, around, elders):
    """The depth of the statements of a block; elders tells for each elder routine (parameters, depth)."""
    deepest = 0
    for index, statement in enumerate(block):
        here = (*where, index)
        word = statement_fault(statement, visible, around, elders)
        if word is not None:
            raise BadProgram(here, word)
        called = elders[statement[1]][1] if statement[0] in ("call", "back") else 0
        deepest = max(deepest, around + 1 + called)
        within = dict(visible)
        if statement[0] == "local":
            within[statement[1]] = True
        for number, inner in enumerate(parts_of(statement, "b")):
            deepest = max(deepest, check_block(inner, (*here, number), within, around + 1, elders))
    return deepest


def is_routine(thing):
    """Whether it is a tuple of a string and two tuples."""
    if not isinstance(thing, tuple) or len(thing) != 3:
        return False
    return isinstance(thing[0], str) and isinstance(thing[1], tuple) and isinstance(thing[2], tuple)


def routine_fault(routine, elders):
    """None, or the first word of what is wrong with a routine, its statements not looked at."""
    if not is_routine(routine):
        return "form"
    name, parameters, _ = routine
    if not is_name(name) or name in elders:
        return "name"
    if len(parameters) > MOST_HANDED or not all([is_name(parameter) for parameter in parameters]):
        return "parameters"
    return "parameters" if len(set(parameters)) < len(parameters) else None


class Program:
    """The routines of a program, eldest first; the last one is run."""

    def __init__(self, routines):
        if not is_sequence(routines) or not 1 <= len(routines) <= MOST_ROUTINES:
            raise BadProgram((), "routines")
        elders = {}
        for number, routine in enumerate(routines):
            word = routine_fault(routine, elders)
            if word is not None:
                raise BadProgram((number,), word)
            name, parameters, body = routine
            visible = {parameter: True for parameter in parameters}
            depth = check_block(body, (number,), visible, 0, elders)
            if depth > MOST_LEVELS:
                raise BadProgram((number,), "deep")
            elders[name] = (len(parameters), depth)
        self.routines = tuple(routines)
        self.names = self.routines[-1][1]

    def routine_number(self, name):
        """The number of the routine of this name."""
        for number, routine in enumerate(self.routines):
            if routine[0] == name:
                return number
        raise NoRoutine(name)

    def __eq__(self, other):
        return isinstance(other, Program) and self.routines == other.routines

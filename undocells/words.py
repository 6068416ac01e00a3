"""Words, the kinds of steps, and the one meaning of each kind."""

from undocells.basics import is_sequence, is_within
from undocells.errors import BadInputs, BadKind, BadWidth

MOST_WIDTH = 12
MOST_NUMBER = 4095
TABLE_SIZES = (1, 2, 4, 8, 16)
PAIR_SIGNS = ("+", "-", "*", "&", "|", "^", "==", "<")
SHIFT_SIGNS = ("<<", ">>")


def check_width(width):
    """The width itself, if words may have it."""
    if not is_within(width, 1, MOST_WIDTH):
        raise BadWidth()
    return width


def check_inputs(inputs, many, width):
    """The tuple of so many words."""
    if not is_sequence(inputs) or len(inputs) != many:
        raise BadInputs(-1, "many")
    for index, word in enumerate(inputs):
        if not is_within(word, 0, (1 << width) - 1):
            raise BadInputs(index, "word")
    return tuple(inputs)


def is_number(thing):
    """Whether it is a number that a text may name."""
    return is_within(thing, 0, MOST_NUMBER)


def is_table(numbers):
    """Whether these are the numbers of a table."""
    return is_sequence(numbers) and len(numbers) in TABLE_SIZES and all([is_number(n) for n in numbers])


def check_kind(kind):
    """The kind of a step, the numbers of a table as a tuple."""
    if not isinstance(kind, tuple) or kind == ():
        raise BadKind()
    if len(kind) == 1 and (kind[0] in PAIR_SIGNS or kind[0] in ("pick", "same")):
        return kind
    if len(kind) == 2 and kind[0] in SHIFT_SIGNS and is_number(kind[1]):
        return kind
    if len(kind) == 2 and kind[0] == "table" and is_table(kind[1]):
        return ("table", tuple(kind[1]))
    raise BadKind()


def operand_count(kind):
    """How many operands a step of this kind has."""
    if kind[0] == "pick":
        return 3
    return 2 if kind[0] in PAIR_SIGNS else 1


def step_word(kind, words, width):
    """The word of a step over the words of its operands; nothing is checked."""
    most = (1 << width) - 1
    if kind[0] == "pick":
        return words[1] if words[0] else words[2]
    if kind[0] in PAIR_SIGNS:
        return pair_word(kind[0], words[0], words[1]) & most
    return single_word(kind, words[0]) & most


def pair_word(sign, one, other):
    """What two words come to; a sum, difference or product is not yet cut to the width."""
    if sign == "+":
        return one + other
    if sign == "-":
        return one - other
    if sign == "*":
        return one * other
    if sign == "&":
        return one & other
    if sign == "|":
        return one | other
    if sign == "^":
        return one ^ other
    return int(one == other) if sign == "==" else int(one < other)


def single_word(kind, word):
    """What one word comes to; the result is not yet cut to the width."""
    if kind[0] == "table":
        return kind[1][word % len(kind[1])]
    if kind[0] == "same":
        return word
    return word << kind[1] if kind[0] == "<<" else word >> kind[1]

"""Steps of a web: a kind and its operands."""

from undocells.basics import is_sequence, is_within
from undocells.errors import BadKind, BadStep
from undocells.words import check_kind, operand_count

MOST_PLACES = 200
MOST_GIVEN = 6
# the greatest number that each operand may tell
OPERAND_ENDS = {"place": 199, "given": 5, "number": 4095}


def is_operand(thing):
    """Whether it is an operand of a step."""
    if not isinstance(thing, tuple) or len(thing) != 2 or not isinstance(thing[0], str):
        return False
    return thing[0] in OPERAND_ENDS and is_within(thing[1], 0, OPERAND_ENDS[thing[0]])


def checked_kind(kind):
    """The kind of a step, as a step is told of it."""
    try:
        return check_kind(kind)
    except BadKind:
        raise BadStep() from None


def checked_operands(kind, operands):
    """The tuple of the operands that this kind wants."""
    if not is_sequence(operands) or len(operands) != operand_count(kind):
        raise BadStep()
    if not all([is_operand(operand) for operand in operands]):
        raise BadStep()
    return tuple(operands)


class Step:
    """One step; its befores are the places among its operands."""

    def __init__(self, kind, operands):
        self.kind = checked_kind(kind)
        self.operands = checked_operands(self.kind, operands)
        self.befores = tuple(sorted(set([number for name, number in self.operands if name == "place"])))

    def __eq__(self, other):
        return isinstance(other, Step) and self.kind == other.kind and self.operands == other.operands

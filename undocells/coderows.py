"""Code of the undoable machine: its rows, and what is wrong with others."""

from undocells.basics import is_sequence, is_whole, is_within
from undocells.errors import BadCode, BadKind
from undocells.words import MOST_WIDTH, check_kind, is_number, operand_count

MOST_SLOTS = 200000
MOST_ROWS = 100000

# What stands behind the word of a row: s a slot, k a kind, o operands, t a test, r the number of a row, n a section.
FORMS = {
    "add": "sko", "sub": "sko", "xor": "sko", "swap": "ss", "zero": "s", "go": "tr", "come": "tr",
    "enter": "n", "leave": "n", "call": "n", "back": "n",
}


def operand_word(operand, words, width):
    """The word of an operand; words are those of all slots."""
    name, number = operand
    return words[number] if name == "slot" else number & (1 << width) - 1


def test_holds(test, words, width):
    """Whether a test holds; words are those of all slots."""
    operand, sign = test
    return (operand_word(operand, words, width) != 0) == (sign == 1)


def is_from_nought(thing):
    """Whether it is a whole number from 0."""
    return is_whole(thing) and thing >= 0


def is_operand(thing):
    """Whether it is an operand of the code."""
    if not isinstance(thing, tuple) or len(thing) != 2:
        return False
    return thing[0] == "slot" and is_from_nought(thing[1]) or thing[0] == "number" and is_number(thing[1])


def is_test(thing):
    """Whether it is a test."""
    return isinstance(thing, tuple) and len(thing) == 2 and is_operand(thing[0]) and is_within(thing[1], 0, 1)


def is_kind(thing):
    """Whether it is the kind of a step, all of tuples."""
    try:
        return check_kind(thing) == thing
    except BadKind:
        return False


def is_change(kind, operands):
    """Whether these are a kind and its operands."""
    if not is_kind(kind) or not isinstance(operands, tuple) or len(operands) != operand_count(kind):
        return False
    return all([is_operand(operand) for operand in operands])


def is_code_row(thing):
    """Whether it is a row of code."""
    if not isinstance(thing, tuple) or thing == () or not isinstance(thing[0], str) or thing[0] not in FORMS:
        return False
    form = FORMS[thing[0]]
    if len(thing) != 1 + len(form):
        return False
    if form == "sko":
        return is_from_nought(thing[1]) and is_change(thing[2], thing[3])
    if form == "tr":
        return is_test(thing[1]) and is_from_nought(thing[2])
    return all([is_from_nought(number) for number in thing[1:]])


def slots_of(row):
    """The slots that a row names."""
    form = FORMS[row[0]]
    named = [part for part, letter in zip(row[1:], form) if letter == "s"]
    operands = row[3] if form == "sko" else ()
    if form == "tr":
        operands = (row[1][0],)
    named.extend([number for name, number in operands if name == "slot"])
    return named


def check_shape(width, names, slots, rows):
    """Raise the error of the first of these that a code cannot have."""
    if not is_within(width, 1, MOST_WIDTH):
        raise BadCode(-1, "width")
    if not is_sequence(names) or not all([isinstance(name, str) for name in names]):
        raise BadCode(-1, "names")
    if len(set(names)) < len(names):
        raise BadCode(-1, "names")
    if not is_within(slots, len(names), MOST_SLOTS):
        raise BadCode(-1, "slots")
    if not is_sequence(rows) or len(rows) > MOST_ROWS:
        raise BadCode(-1, "rows")


def check_rows(rows, slots):
    """Raise the error of the first thing that cannot be a row of code with so many slots."""
    for number, row in enumerate(rows):
        if not is_code_row(row):
            raise BadCode(number, "row")
        if max(slots_of(row), default=-1) >= slots:
            raise BadCode(number, "slot")


def spans_of(rows):
    """For each enter row, in order, its number and that of the next leave row, or the number of rows."""
    leaves = [number for number, row in enumerate(rows) if row[0] == "leave"]
    leaves.append(len(rows))
    spans, at = [], 0
    for number, row in enumerate(rows):
        if row[0] == "enter":
            while leaves[at] < number:
                at += 1
            spans.append((number, leaves[at]))
    return tuple(spans)


def start_of(rows):
    """The number of rows up to the last leave row."""
    return max([number + 1 for number, row in enumerate(rows) if row[0] == "leave"], default=0)


class Code:
    """Rows of the undoable machine over slots, of which the first bear the names."""

    def __init__(self, width, names, slots, rows, origins=()):
        check_shape(width, names, slots, rows)
        check_rows(rows, slots)
        if not is_sequence(origins) or len(origins) not in (0, len(rows)):
            raise BadCode(-1, "origins")
        self.width = width
        self.names = tuple(names)
        self.slots = slots
        self.rows = tuple(rows)
        self.origins = tuple([tuple(where) if isinstance(where, list) else where for where in origins])
        self.start = start_of(self.rows)
        self.spans = spans_of(self.rows)

    def __len__(self):
        return len(self.rows)

    def __iter__(self):
        return iter(self.rows)

    def __eq__(self, other):
        return (isinstance(other, Code) and self.width == other.width and self.names == other.names
                and self.slots == other.slots and self.rows == other.rows and self.origins == other.origins)

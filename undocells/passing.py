"""Rows of the undoable machine passed on and back, on words that change in place."""

from undocells.coderows import operand_word, test_holds
from undocells.errors import Halted, RowStuck
from undocells.words import step_word

SIGNS = {"add": "+", "sub": "-", "xor": "^"}
BACKWARD_SIGNS = {"add": "-", "sub": "+", "xor": "^"}


class Stand:
    """Where a machine stands: its gap, its way, and its branch and words as lists."""

    def __init__(self, gap, way, branch, words):
        self.gap = gap
        self.way = way
        self.branch = list(branch)
        self.words = list(words)


def outer_of(code, way, branch):
    """The way in which the main rows are passed by a machine that stands so."""
    turns = len([number for number in branch if code.rows[number][0] == "back"])
    return -way if turns & 1 else way


def is_at_end(code, gap, way, branch):
    """Whether a machine that stands so is halted."""
    if way == 1:
        return gap == len(code.rows)
    return gap == code.start and len(branch) == 0


def pass_row(code, stand):
    """One step; the stand is changed only if the row can be passed."""
    if is_at_end(code, stand.gap, stand.way, stand.branch):
        raise Halted(stand.way)
    number = stand.gap if stand.way == 1 else stand.gap - 1
    row = code.rows[number]
    if row[0] in ("go", "come"):
        pass_fork(code, stand, number)
    elif row[0] in ("call", "back"):
        begin_section(code, stand, number)
    elif row[0] in ("enter", "leave"):
        end_section(code, stand)
    else:
        change_words(code, stand, number)
        stand.gap = stand.gap + stand.way


def change_words(code, stand, number):
    """Pass a row that changes or checks words."""
    row, words = code.rows[number], stand.words
    if row[0] == "zero":
        if words[row[1]] != 0:
            raise RowStuck(number, "zero")
    elif row[0] == "swap":
        words[row[1]], words[row[2]] = words[row[2]], words[row[1]]
    else:
        word, slot, kind, operands = row
        worth = step_word(kind, [operand_word(operand, words, code.width) for operand in operands], code.width)
        sign = SIGNS[word] if stand.way == 1 else BACKWARD_SIGNS[word]
        words[slot] = step_word((sign,), (words[slot], worth), code.width)


def pass_fork(code, stand, number):
    """Pass a go or come row: the one that leads away in this way, or the one that is led to."""
    word, test, other = code.rows[number]
    holds = test_holds(test, stand.words, code.width)
    leads_away = (word == "go") == (stand.way == 1)
    if not holds:
        stand.gap = stand.gap + stand.way
        return
    if not leads_away:
        raise RowStuck(number, word)
    partner = code.rows[other]
    if not test_holds(partner[1], stand.words, code.width):
        raise RowStuck(other, partner[0])
    stand.gap = other + 1 if stand.way == 1 else other


def begin_section(code, stand, number):
    """Pass a call or back row: go to the beginning or the end of its section."""
    word, section = code.rows[number]
    way = stand.way if word == "call" else -stand.way
    enter, leave = code.spans[section]
    stand.branch.append(number)
    stand.way = way
    stand.gap = enter + 1 if way == 1 else leave


def end_section(code, stand):
    """Pass an enter or leave row: go on from the row that led into the section."""
    number = stand.branch.pop()
    if code.rows[number][0] == "back":
        stand.way = -stand.way
    stand.gap = number + 1 if stand.way == 1 else number

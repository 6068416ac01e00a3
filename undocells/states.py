"""States of the undoable machine, and the step from each to the next."""

from undocells.basics import is_within
from undocells.coderows import operand_word, test_holds
from undocells.errors import BadState, Halted, RowStuck
from undocells.words import check_inputs, step_word

SIGNS = {"add": "+", "sub": "-", "xor": "^"}
BACKWARD_SIGNS = {"add": "-", "sub": "+", "xor": "^"}


class MachineState:
    """Where a machine stands: a gap of its code, the way, the branch, and a word for each slot."""

    def __init__(self, gap, way, branch, words):
        self.gap = gap
        self.way = way
        self.branch = branch
        self.words = words

    def __eq__(self, other):
        return (isinstance(other, MachineState) and self.gap == other.gap and self.way == other.way
                and self.branch == other.branch and self.words == other.words)


def is_way(thing):
    """Whether it is a way."""
    return is_within(thing, -1, 1) and thing != 0


def is_branch(code, branch, gap):
    """Whether a machine can stand at a gap with this branch."""
    if not isinstance(branch, tuple):
        return False
    first, last = code.start, len(code) - 1
    for number in branch:
        if not is_within(number, first, last) or code.rows[number][0] not in ("call", "back"):
            return False
        enter, leave = code.spans[code.rows[number][1]]
        first, last = enter + 1, leave - 1
    return first <= gap <= last + 1


def check_state(code, state):
    """The state itself, if a machine with this code can stand so."""
    if not is_within(state.gap, 0, len(code)):
        raise BadState("gap")
    if not is_way(state.way):
        raise BadState("way")
    if not is_branch(code, state.branch, state.gap):
        raise BadState("branch")
    most = (1 << code.width) - 1
    if not isinstance(state.words, tuple) or len(state.words) != code.slots:
        raise BadState("words")
    if not all([is_within(word, 0, most) for word in state.words]):
        raise BadState("words")
    return state


def begun_state(code, gap, words):
    """The state at a gap with way 1, the empty branch, and these words of the named slots."""
    named = check_inputs(words, len(code.names), code.width)
    return MachineState(gap, 1, (), named + (0,) * (code.slots - len(named)))


def start_state(code, words):
    """The state ahead of the main rows."""
    return begun_state(code, code.start, words)


def end_state(code, words):
    """The state behind the main rows."""
    return begun_state(code, len(code), words)


def turned_state(state):
    """The same state with the opposite way."""
    return MachineState(state.gap, -state.way, state.branch, state.words)


class Stand:
    """Where a machine stands: its gap, its way, and its branch and words as lists."""

    def __init__(self, gap, way, branch, words):
        self.gap = gap
        self.way = way
        self.branch = list(branch)
        self.words = list(words)


def outer_of(code, way, branch):
    """The way in which the main rows are passed by a machine that stands so."""
    turns = len([number for number in branch if code.rows[number][0] == "back"])
    return -way if turns & 1 else way


def is_at_end(code, gap, way, branch):
    """Whether a machine that stands so is halted."""
    if way == 1:
        return gap == len(code.rows)
    return gap == code.start and len(branch) == 0


def pass_row(code, stand):
    """One step; the stand is changed only if the row can be passed."""
    if is_at_end(code, stand.gap, stand.way, stand.branch):
        raise Halted(stand.way)
    number = stand.gap if stand.way == 1 else stand.gap - 1
    row = code.rows[number]
    if row[0] in ("go", "come"):
        pass_fork(code, stand, number)
    elif row[0] in ("call", "back"):
        begin_section(code, stand, number)
    elif row[0] in ("enter", "leave"):
        end_section(code, stand)
    else:
        change_words(code, stand, number)
        stand.gap = stand.gap + stand.way


def change_words(code, stand, number):
    """Pass a row that changes or checks words."""
    row, words = code.rows[number], stand.words
    if row[0] == "zero":
        if words[row[1]] != 0:
            raise RowStuck(number, "zero")
    elif row[0] == "swap":
        words[row[1]], words[row[2]] = words[row[2]], words[row[1]]
    else:
        word, slot, kind, operands = row
        worth = step_word(kind, [operand_word(operand, words, code.width) for operand in operands], code.width)
        sign = SIGNS[word] if stand.way == 1 else BACKWARD_SIGNS[word]
        words[slot] = step_word((sign,), (words[slot], worth), code.width)


def pass_fork(code, stand, number):
    """Pass a go or come row: the one that leads away in this way, or the one that is led to."""
    word, test, other = code.rows[number]
    holds = test_holds(test, stand.words, code.width)
    leads_away = (word == "go") == (stand.way == 1)
    if not holds:
        stand.gap = stand.gap + stand.way
        return
    if not leads_away:
        raise RowStuck(number, word)
    partner = code.rows[other]
    if not test_holds(partner[1], stand.words, code.width):
        raise RowStuck(other, partner[0])
    stand.gap = other + 1 if stand.way == 1 else other


def begin_section(code, stand, number):
    """Pass a call or back row: go to the beginning or the end of its section."""
    word, section = code.rows[number]
    way = stand.way if word == "call" else -stand.way
    enter, leave = code.spans[section]
    stand.branch.append(number)
    stand.way = way
    stand.gap = enter + 1 if way == 1 else leave


def end_section(code, stand):
    """Pass an enter or leave row: go on from the row that led into the section."""
    number = stand.branch.pop()
    if code.rows[number][0] == "back":
        stand.way = -stand.way
    stand.gap = number + 1 if stand.way == 1 else number


def is_halted(code, state):
    """Whether no step leads on from a state as it has come to the end of its way."""
    return is_at_end(code, state.gap, state.way, state.branch)


def stepped(code, state):
    """The state behind one step."""
    stand = Stand(state.gap, state.way, state.branch, state.words)
    pass_row(code, stand)
    return state_at(stand)


def state_at(stand):
    """The state at which a machine stands."""
    return MachineState(stand.gap, stand.way, tuple(stand.branch), tuple(stand.words))


def stepped_back(code, state):
    """The state from which one step leads to this one."""
    return turned_state(stepped(code, turned_state(state)))


def outer_way(code, state):
    """The way in which the main rows are passed."""
    return outer_of(code, state.way, state.branch)


def left_over(code, state):
    """The slots without a name whose words are not 0, ascending."""
    return tuple([slot for slot in range(len(code.names), code.slots) if state.words[slot] != 0])

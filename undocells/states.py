"""States of the undoable machine, and the step from one to the next."""

from undocells.basics import is_within
from undocells.errors import BadState
from undocells.passing import Stand, is_at_end, outer_of, pass_row
from undocells.words import check_inputs


class MachineState:
    """Where a machine stands: a gap of its code, the way, the branch, and a word for each slot."""

    def __init__(self, gap, way, branch, words):
        self.gap = gap
        self.way = way
        self.branch = branch
        self.words = words

    def __eq__(self, other):
        return (isinstance(other, MachineState) and self.gap == other.gap and self.way == other.way
                and self.branch == other.branch and self.words == other.words)


def is_way(thing):
    """Whether it is a way."""
    return is_within(thing, -1, 1) and thing != 0


def is_branch(code, branch, gap):
    """Whether a machine can stand at a gap with this branch."""
    if not isinstance(branch, tuple):
        return False
    first, last = code.start, len(code) - 1
    for number in branch:
        if not is_within(number, first, last) or code.rows[number][0] not in ("call", "back"):
            return False
        enter, leave = code.spans[code.rows[number][1]]
        first, last = enter + 1, leave - 1
    return first <= gap <= last + 1


def check_state(code, state):
    """The state itself, if a machine with this code can stand so."""
    if not is_within(state.gap, 0, len(code)):
        raise BadState("gap")
    if not is_way(state.way):
        raise BadState("way")
    if not is_branch(code, state.branch, state.gap):
        raise BadState("branch")
    most = (1 << code.width) - 1
    if not isinstance(state.words, tuple) or len(state.words) != code.slots:
        raise BadState("words")
    if not all([is_within(word, 0, most) for word in state.words]):
        raise BadState("words")
    return state


def begun_state(code, gap, words):
    """The state at a gap with way 1, the empty branch, and these words of the named slots."""
    named = check_inputs(words, len(code.names), code.width)
    return MachineState(gap, 1, (), named + (0,) * (code.slots - len(named)))


def start_state(code, words):
    """The state ahead of the main rows."""
    return begun_state(code, code.start, words)


def end_state(code, words):
    """The state behind the main rows."""
    return begun_state(code, len(code), words)


def turned_state(state):
    """The same state with the opposite way."""
    return MachineState(state.gap, -state.way, state.branch, state.words)


def is_halted(code, state):
    """Whether no step leads on from a state as it has come to the end of its way."""
    return is_at_end(code, state.gap, state.way, state.branch)


def stepped(code, state):
    """The state behind one step."""
    stand = Stand(state.gap, state.way, state.branch, state.words)
    pass_row(code, stand)
    return state_at(stand)


def state_at(stand):
    """The state at which a machine stands."""
    return MachineState(stand.gap, stand.way, tuple(stand.branch), tuple(stand.words))


def stepped_back(code, state):
    """The state from which one step leads to this one."""
    return turned_state(stepped(code, turned_state(state)))


def outer_way(code, state):
    """The way in which the main rows are passed."""
    return outer_of(code, state.way, state.branch)


def left_over(code, state):
    """The slots without a name whose words are not 0, ascending."""
    return tuple([slot for slot in range(len(code.names), code.slots) if state.words[slot] != 0])

"""The undoable machine: it stands in a state of its code and changes."""

from undocells.basics import is_within
from undocells.errors import BadFuel, BadWay, OutOfFuel, RowStuck
from undocells.states import MachineState, Stand, check_state, is_at_end, is_way, outer_of, pass_row

MOST_STEPS = 1000000


def check_way(way):
    """The way itself, if it is one."""
    if not is_way(way):
        raise BadWay()
    return way


def check_steps(fuel):
    """The fuel of a machine, if there may be so much."""
    if not is_within(fuel, 0, MOST_STEPS):
        raise BadFuel()
    return fuel


class Machine:
    """A machine with its code, that stands in a state."""

    def __init__(self, code, state):
        check_state(code, state)
        self.code = code
        self.gap = state.gap
        self.way = state.way
        self.branch = state.branch
        self.words = state.words

    @property
    def state(self):
        """The state in which it stands."""
        return MachineState(self.gap, self.way, self.branch, self.words)

    @property
    def outer(self):
        """The way in which it passes the main rows."""
        return outer_of(self.code, self.way, self.branch)

    @property
    def is_over(self):
        """Whether it is halted."""
        return is_at_end(self.code, self.gap, self.way, self.branch)

    def step(self):
        """Make a step."""
        stand = Stand(self.gap, self.way, self.branch, self.words)
        pass_row(self.code, stand)
        self.stand_at(stand)

    def back(self):
        """Take a step back."""
        stand = Stand(self.gap, -self.way, self.branch, self.words)
        pass_row(self.code, stand)
        stand.way = -stand.way
        self.stand_at(stand)

    def turn(self):
        """Turn the way."""
        self.way = -self.way

    def stand_at(self, stand):
        """Take over where a stand has come to."""
        self.gap = stand.gap
        self.way = stand.way
        self.branch = tuple(stand.branch)
        self.words = tuple(stand.words)

    def advance(self, most):
        """Make so many steps, or fewer if it is over, and tell how many were made."""
        stand = Stand(self.gap, self.way, self.branch, self.words)
        steps = 0
        try:
            while steps < most and not is_at_end(self.code, stand.gap, stand.way, stand.branch):
                pass_row(self.code, stand)
                steps += 1
        except RowStuck:
            self.stand_at(stand)
            raise
        self.stand_at(stand)
        return steps

    def run(self, fuel=100000):
        """Step until it is over, and tell how many steps were made."""
        steps = self.advance(check_steps(fuel))
        if not self.is_over:
            raise OutOfFuel()
        return steps

    def led(self, way, fuel=100000):
        """Run in such a way that the main rows are passed in this way."""
        check_way(way)
        check_steps(fuel)
        if self.outer != way:
            self.turn()
        return self.run(fuel)

"""Runs of the undoable machine cut at any step, and how many states its code has."""

from undocells.basics import is_within
from undocells.codejudge import regions_of
from undocells.errors import BadDone
from undocells.machine import MOST_STEPS, Machine, check_steps, check_way
from undocells.states import check_state, is_halted, start_state, stepped


def states_of(code, state, most):
    """Yield the state, then that behind each step, up to so many steps or until one is halted."""
    reached = check_state(code, state)
    yield reached
    steps = 0
    while steps < most and not is_halted(code, reached):
        reached = stepped(code, reached)
        steps += 1
        yield reached


def cut_run(code, words, done, way, fuel=100000):
    """The last state of a machine that makes so many steps and is then led."""
    machine = Machine(code, start_state(code, words))
    if not is_within(done, 0, MOST_STEPS):
        raise BadDone()
    check_way(way)
    check_steps(fuel)
    machine.advance(done)
    machine.led(way, fuel)
    return machine.state


def branches_ending_in(code):
    """For each section how many branches have it last."""
    regions = regions_of(code)
    many = [0] * len(code.spans)
    # a section is entered only from rows below it: from the last row up, all that lead to it come ahead of its own
    for number in range(len(code) - 1, -1, -1):
        word = code.rows[number][0]
        if word in ("call", "back"):
            section = code.rows[number][1]
            many[section] = many[section] + (1 if regions[number] == -1 else many[regions[number]])
    return many


def state_count(code):
    """The number of states of good code."""
    gaps = len(code) - code.start + 1
    for branches, (enter, leave) in zip(branches_ending_in(code), code.spans):
        gaps += branches * (leave - enter)
    return 2 * gaps << code.width * code.slots

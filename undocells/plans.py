"""Plans of the asker, and the rows of moves that they become."""

from undocells.bares import is_place, unders_of
from undocells.errors import BadPlan, TooMany
from undocells.moves import MOST_MOVES, row_back
from undocells.rounds import answers_of, fillable, is_ready, needed_in, told_state, worse_of
from undocells.search import check_small


def plan_length(plan):
    """The greatest number of fillings on a way through a plan."""
    if plan == ():
        return 0
    return 1 + max(plan_length(plan[1]), plan_length(plan[2]))


def plan_fault(bare, plan, asked=None, filled=()):
    """None, or the first word of what is wrong with a plan for a state."""
    place, standing = told_state(bare, asked, filled)
    return fault_in(bare, plan, place, standing)


def fault_in(bare, plan, asked, filled):
    """None, or the first fault of a plan; the filled places are told as binary ones."""
    ready = is_ready(bare, asked, filled)
    if plan == ():
        return None if ready else "early"
    if ready:
        return "idle"
    place, stayed, gone = plan
    if not is_place(bare, place) or (filled | 1 << asked) >> place & 1:
        return "place"
    behind_stayed, behind_gone = answers_of(asked, filled, place)
    word = fault_in(bare, stayed, behind_stayed[0], behind_stayed[1])
    return fault_in(bare, gone, behind_gone[0], behind_gone[1]) if word is None else word


def best_plan(bare, asked=None, filled=()):
    """A plan of the least length, which fills the least place that helps in each state."""
    place, standing = told_state(bare, asked, filled)
    check_small(bare)
    return best_in(bare, place, standing, {})


def best_in(bare, asked, filled, known):
    """The best plan for a state; known keeps the rounds that are needed, and is changed."""
    needed = needed_in(bare, asked, filled, known)
    if needed == 0:
        return ()
    helping = [place for place in fillable(bare, asked, filled)
               if worse_of(bare, answers_of(asked, filled, place), known) < needed]
    stayed, gone = answers_of(asked, filled, helping[0])
    return (helping[0], best_in(bare, stayed[0], stayed[1], known), best_in(bare, gone[0], gone[1], known))


def check_plan(bare, plan, asked, filled):
    """The asked place, if the plan is right for the state."""
    place, standing = told_state(bare, asked, filled)
    word = fault_in(bare, plan, place, standing)
    if word is not None:
        raise BadPlan(word)
    return place


def lean_plan(bare, plan, asked=None, filled=()):
    """The plan without the fillings of places that are not under the asked one."""
    place = check_plan(bare, plan, asked, filled)
    return lean_in(plan, place, unders_of(bare))


def lean_in(plan, asked, unders):
    """The lean plan; unders tells for each place those under it as binary ones."""
    if plan == ():
        return ()
    place, stayed, gone = plan
    if not unders[asked] >> place & 1:
        return lean_in(stayed, asked, unders)
    return (place, lean_in(stayed, asked, unders), lean_in(gone, place, unders))


def count_moves(plan):
    """How many moves the row of a lean plan has."""
    if plan == ():
        return 1
    return count_moves(plan[1]) + 2 * count_moves(plan[2])


def plan_to_row(bare, plan, asked=None, filled=()):
    """The row of the lean plan."""
    lean = lean_plan(bare, plan, asked, filled)
    if count_moves(lean) > MOST_MOVES:
        raise TooMany(MOST_MOVES)
    place, _ = told_state(bare, asked, filled)
    return row_in(lean, place)


def row_in(plan, asked):
    """The row of a lean plan for an asked place."""
    if plan == ():
        return (asked,)
    place, stayed, gone = plan
    there = row_in(gone, place)
    return there + row_in(stayed, asked) + row_back(there)

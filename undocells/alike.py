"""Lists of moves that exchanges, strikes and doubles lead to one another."""

from undocells.bares import check_place, is_place
from undocells.basics import is_sequence, is_whole, mask_of
from undocells.errors import BadChange, BadRow, TooMany

MOST_LISTED = 100


def check_list(bare, row):
    """The list of the places told, whether or not the moves can be done."""
    if not is_sequence(row):
        raise BadRow(-1, "place")
    for index, place in enumerate(row):
        if not is_place(bare, place):
            raise BadRow(index, "place")
    if len(row) > MOST_LISTED:
        raise TooMany(MOST_LISTED)
    return list(row)


def are_free(bare, one, other):
    """Whether moves at these two places are free of one another."""
    check_place(bare, one)
    check_place(bare, other)
    return one != other and one not in bare.befores[other] and other not in bare.befores[one]


def is_change(bare, change):
    """Whether the change has one of the three forms."""
    if not is_sequence(change) or len(change) < 2 or not is_whole(change[1]):
        return False
    if change[0] in ("exchange", "strike"):
        return len(change) == 2
    return change[0] == "double" and len(change) == 3 and is_place(bare, change[2])


def changed(bare, moves, change):
    """The list of moves behind one change."""
    if not is_change(bare, change):
        raise BadChange("form")
    word, at = change[0], change[1]
    last = len(moves) if word == "double" else len(moves) - 2
    if not 0 <= at <= last:
        raise BadChange("index")
    if word == "double":
        return [*moves[:at], change[2], change[2], *moves[at:]]
    one, other = moves[at], moves[at + 1]
    if word == "strike":
        if one != other:
            raise BadChange("equal")
        return [*moves[:at], *moves[at + 2:]]
    if not are_free(bare, one, other):
        raise BadChange("free")
    return [*moves[:at], other, one, *moves[at + 2:]]


def change_row(bare, row, change):
    """The row behind one change."""
    return tuple(changed(bare, check_list(bare, row), change))


def bound_masks(bare):
    """For each place those that are not free of it, as binary ones."""
    return [mask_of([place, *bare.befores[place], *bare.afters[place]]) for place in range(len(bare))]


def carry(moves, start, goal, changes):
    """Bring the move at start ahead to goal by exchanges; moves and changes are changed."""
    for at in range(start - 1, goal - 1, -1):
        moves[at], moves[at + 1] = moves[at + 1], moves[at]
        changes.append(("exchange", at))


def equal_ahead(bounds, moves, at):
    """The number of the equal move ahead of which all between are free, or None."""
    for index in range(at - 1, -1, -1):
        if moves[index] == moves[at]:
            return index
        if bounds[moves[at]] >> moves[index] & 1:
            return None
    return None


def strike_pairs(bounds, moves, changes):
    """Strike out all couples of moves that exchanges bring together."""
    at = 0
    while at < len(moves):
        found = equal_ahead(bounds, moves, at)
        if found is None:
            at += 1
            continue
        carry(moves, at, found + 1, changes)
        changes.append(("strike", found, moves[found]))
        del moves[found:found + 2]
        at -= 1


def least_ahead(bounds, moves, start):
    """The number of the least move, from start on, that exchanges can bring to start."""
    best, blocked = start, 0
    for at in range(start, len(moves)):
        if not blocked >> moves[at] & 1 and moves[at] < moves[best]:
            best = at
        blocked |= bounds[moves[at]]
    return best


def settling(bare, moves):
    """The settled row of a list of moves, and the changes that lead there; a strike tells its place, too."""
    bounds, settled, changes = bound_masks(bare), list(moves), []
    strike_pairs(bounds, settled, changes)
    for start in range(len(settled)):
        carry(settled, least_ahead(bounds, settled, start), start, changes)
    return tuple(settled), changes


def settled_row(bare, row):
    """The row with the fewest moves that exchanges and strikes make, and of these the first."""
    settled, _ = settling(bare, check_list(bare, row))
    return settled


def are_alike(bare, one, other):
    """Whether changes lead from one row to the other."""
    moves, goal = check_list(bare, one), check_list(bare, other)
    return settled_row(bare, moves) == settled_row(bare, goal)


def taken_back(change):
    """The change that takes a change back; a strike tells its place, too."""
    return ("double", change[1], change[2]) if change[0] == "strike" else change


def alike_way(bare, one, other):
    """Changes that lead from one row to the other, or None."""
    moves, goal = check_list(bare, one), check_list(bare, other)
    settled, there = settling(bare, moves)
    settled_goal, back = settling(bare, goal)
    if settled != settled_goal:
        return None
    return tuple([change[:2] for change in there] + [taken_back(change) for change in back[::-1]])


def way_fault(bare, one, other, way):
    """None, or why these changes do not lead from one row to the other."""
    moves, goal = check_list(bare, one), check_list(bare, other)
    if not is_sequence(way):
        return "form"
    for change in way:
        try:
            moves = changed(bare, moves, change)
        except BadChange as error:
            return error.what
    return None if moves == goal else "end"

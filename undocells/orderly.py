"""Plans made of rows: what is filled at a standing can be asked for in the order of filling."""

from undocells.basics import mask_of
from undocells.errors import TooMany
from undocells.joining import foot_of
from undocells.moves import check_row, room_of
from undocells.rounds import is_ready

MOST_NARROW = 12


def filling_orders(bare, row):
    """For each standing of a row its places in the order in which they were last filled."""
    order, found = (), [()]
    for place in check_row(bare, row):
        if place in order:
            order = tuple([other for other in order if other != place])
        else:
            order = (*order, place)
        found.append(order)
    return tuple(found)


def check_narrow(bare, row):
    """Raise the error of a row with too much room."""
    if room_of(bare, row) > MOST_NARROW:
        raise TooMany(MOST_NARROW)


def standing_plans(bare, row):
    """For each standing of a row its places in that order, each with a plan behind the ones ahead of it."""
    moves = check_row(bare, row)
    check_narrow(bare, moves)
    couples, found = (), [()]
    for place in moves:
        couples = couples_behind(bare, couples, place)
        found.append(couples)
    return tuple(found)


def couples_behind(bare, couples, place):
    """The places with their plans behind one more move."""
    order = [other for other, _ in couples]
    if place not in order:
        # a place that was just filled is settled
        return (*couples, (place, ()))
    at = order.index(place)
    return couples[:at] + couples_without(bare, place, mask_of(order[:at]), couples[at + 1:])


def couples_without(bare, cleared, ahead, later):
    """New plans for the places that were filled later than the cleared one; ahead are the elder ones."""
    standing = ahead | mask_of([place for place, _ in later])
    # the plan for the cleared place asked behind all places still left in the standing
    asking, found = (), []
    for place, plan in reversed(later):
        standing ^= 1 << place
        found.append((place, () if is_ready(bare, place, standing) else (cleared, plan, asking)))
        asking = () if is_ready(bare, cleared, standing) else (place, asking, plan)
    return tuple(found[::-1])


def row_to_plan(bare, row):
    """A plan for the end that needs less rounds than the kept row has room."""
    foot, _ = foot_of(bare, row)
    check_narrow(bare, row)
    couples = ()
    for place in foot:
        couples = couples_behind(bare, couples, place)
    standing = mask_of([place for place, _ in couples])
    plan = ()
    for place, there in reversed(couples):
        standing ^= 1 << place
        plan = () if is_ready(bare, bare.end, standing) else (place, plan, there)
    return plan

"""Closed lots of standings, which show that no row has a room."""

from undocells.bares import is_place
from undocells.basics import is_sequence, mask_of
from undocells.errors import HasRow
from undocells.moves import check_room
from undocells.search import check_small, moves_at, reached_standings


def is_standing(bare, thing):
    """Whether it is an ascending tuple of unlike places."""
    if not isinstance(thing, tuple) or not all([is_place(bare, place) for place in thing]):
        return False
    return all([thing[at] < thing[at + 1] for at in range(len(thing) - 1)])


def is_lot(bare, lot):
    """Whether it is a sequence of unlike standings."""
    if not is_sequence(lot) or not all([is_standing(bare, standing) for standing in lot]):
        return False
    return len(set(lot)) == len(lot)


def is_barred(bare, standing, shown):
    """Whether the standing must not be in a closed lot."""
    return bare.end in standing if shown else standing == (bare.end,)


def is_open(bare, room, lot):
    """Whether a move leads out of the lot and not beyond the room."""
    masks = {mask_of(standing): True for standing in lot}
    for standing in lot:
        for _, after in moves_at(bare, mask_of(standing), len(standing), room):
            if after not in masks:
                return True
    return False


def lot_fault(bare, room, lot, *, shown=False):
    """None, or why the lot is not closed for the room."""
    check_room(room)
    check_small(bare)
    if not is_lot(bare, lot):
        return "form"
    if any([len(standing) > room for standing in lot]):
        return "room"
    if () not in lot:
        return "empty"
    if any([is_barred(bare, standing, shown) for standing in lot]):
        return "end"
    return "open" if is_open(bare, room, lot) else None


def closed_lot(bare, room, *, shown=False):
    """All reached standings, if no row has this room."""
    lot = reached_standings(bare, room)
    if any([is_barred(bare, standing, shown) for standing in lot]):
        raise HasRow(room)
    return lot

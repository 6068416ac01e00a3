"""Rows of moves: what they fill, their room, and what is wrong with them."""

from undocells.bares import check_places, is_place
from undocells.basics import is_sequence, is_within, mask_of
from undocells.errors import BadRoom, BadRow, BadWanted, TooMany

MOST_ROOM = 200
MOST_MOVES = 20000


def check_room(room):
    """The room itself, if it is one."""
    if not is_within(room, 1, MOST_ROOM):
        raise BadRoom()
    return room


def check_row(bare, row, filled=()):
    """The tuple of the moves of a row that begins with these places filled."""
    if not is_sequence(row):
        raise BadRow(-1, "place")
    if len(row) > MOST_MOVES:
        raise TooMany(MOST_MOVES)
    standing = mask_of(check_places(bare, filled))
    for index, place in enumerate(row):
        if not is_place(bare, place):
            raise BadRow(index, "place")
        if bare.needs[place] & ~standing:
            raise BadRow(index, "befores")
        standing ^= 1 << place
    return tuple(row)


def standings_of(bare, row, filled=()):
    """Yield the standing at the beginning and behind each move."""
    moves = check_row(bare, row, filled)
    standing = sorted(filled)
    yield tuple(standing)
    for place in moves:
        if place in standing:
            standing.remove(place)
        else:
            standing = sorted([*standing, place])
        yield tuple(standing)


def room_of(bare, row, filled=()):
    """The greatest number of places filled at once."""
    room = 0
    for standing in standings_of(bare, row, filled):
        room = max(room, len(standing))
    return room


def filled_behind(bare, row, filled=()):
    """The last standing."""
    last = ()
    for standing in standings_of(bare, row, filled):
        last = standing
    return last


def row_fault(bare, row, room=None, *, wanted="kept"):
    """None, or what is wrong with a row that begins from nothing."""
    if room is not None:
        check_room(room)
    if wanted not in ("kept", "shown", "open"):
        raise BadWanted()
    try:
        moves = check_row(bare, row)
    except BadRow as error:
        return error.what
    except TooMany:
        return "place"
    if room is not None and room_of(bare, moves) > room:
        return "room"
    last = filled_behind(bare, moves)
    if wanted == "kept" and last != (bare.end,) or wanted == "shown" and bare.end not in last:
        return wanted
    return None


def row_back(row):
    """The row turned about."""
    return tuple(row[::-1])

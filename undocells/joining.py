"""Rows of moves put together and taken apart."""

from undocells.errors import NoFoot, NotKept, NotShown
from undocells.moves import filled_behind, row_back, row_fault


def joined_rows(*rows):
    """The rows one behind the other."""
    moves = []
    for row in rows:
        moves.extend(row)
    return tuple(moves)


def cut_row(row, places):
    """The moves at these places."""
    return tuple([place for place in row if place in places])


def led_row(row, places):
    """The row with each move p replaced by places[p]."""
    return tuple([places[place] for place in row])


def bracketed(inner, outer):
    """The inner row, the outer one, and the inner one back."""
    return joined_rows(inner, outer, row_back(inner))


def kept_of_shown(bare, row):
    """A kept row made of a shown one."""
    word = row_fault(bare, row, wanted="shown")
    if word is not None:
        raise NotShown(word)
    ahead = tuple(row[:row.index(bare.end)])
    return bracketed(ahead, (bare.end,))


def foot_of(bare, row):
    """What a kept row does behind its last filling of the end, turned about, and the standing behind that."""
    word = row_fault(bare, row)
    if word is not None:
        raise NotKept(word)
    turned = row_back(row)
    # behind its last filling the end stays, so that is the last move at the end
    foot = turned[:turned.index(bare.end)]
    return foot, filled_behind(bare, foot)


def kept_of_foot(bare, foot):
    """The kept row that fills by the foot, then the end, and takes the foot back."""
    word = foot_fault(bare, foot)
    if word is not None:
        raise NoFoot(word)
    return bracketed(foot, (bare.end,))


def foot_fault(bare, foot):
    """None, or why the row is no foot."""
    word = row_fault(bare, foot, wanted="open")
    if word is not None:
        return word
    if bare.end in foot:
        return "end"
    filled = filled_behind(bare, foot)
    return None if all([before in filled for before in bare.befores[bare.end]]) else "ready"

"""Rows of moves placed in cells: their holdings, and what is wrong with them."""

from undocells.bares import is_place
from undocells.basics import is_sequence, is_within
from undocells.errors import BadHeld, BadPlaced, NotHeld
from undocells.moves import MOST_MOVES, check_row

MOST_CELL = 199


def placed_row(bare, row):
    """The row with each place filled into the lowest empty cell."""
    cells, taken, placed = {}, 0, []
    for place in check_row(bare, row):
        if place in cells:
            cell = cells.pop(place)
        else:
            # adding 1 turns the lowest binary nought on
            cell = (~taken & taken + 1).bit_length() - 1
            cells[place] = cell
        taken ^= 1 << cell
        placed.append((place, cell))
    return tuple(placed)


def placed_back(placed):
    """The placed row turned about."""
    return tuple(placed[::-1])


def is_couple(bare, thing):
    """Whether it is a tuple of a place and a cell."""
    if not isinstance(thing, tuple) or len(thing) != 2:
        return False
    return is_place(bare, thing[0]) and is_within(thing[1], 0, MOST_CELL)


def checked_held(bare, held):
    """The cell of each held place, as a dict."""
    if not is_sequence(held):
        raise BadHeld(-1)
    cells, taken = {}, {}
    for index, couple in enumerate(held):
        if not is_couple(bare, couple) or couple[0] in cells or couple[1] in taken:
            raise BadHeld(index)
        cells[couple[0]] = couple[1]
        taken[couple[1]] = True
    return cells


def holding_of(cells):
    """The holding that a dict from places to cells tells."""
    return tuple([(place, cells[place]) for place in sorted(cells)])


def told_back(cells):
    """The place in each held cell, as a dict."""
    return {cell: place for place, cell in cells.items()}


def do_placed(cells, taken, move):
    """Do a placed move that can be done; cells and taken, the place in each held cell, are changed."""
    place, cell = move
    if place in cells:
        del cells[place]
        del taken[cell]
    else:
        cells[place] = cell
        taken[cell] = place


def move_fault(bare, cells, taken, move):
    """None, or why a placed move cannot be done; cells tells the cell of each held place, taken the other way."""
    if not is_couple(bare, move):
        return "form"
    place, cell = move
    if not all([before in cells for before in bare.befores[place]]):
        return "befores"
    if place in cells:
        return "cell" if cells[place] != cell else None
    return "cell" if cell in taken else None


def check_placed(bare, placed, held):
    """The cell of each place held behind a placed row that begins with these places held."""
    cells = checked_held(bare, held)
    if not is_sequence(placed) or len(placed) > MOST_MOVES:
        raise BadPlaced(-1, "form")
    taken = told_back(cells)
    for index, move in enumerate(placed):
        word = move_fault(bare, cells, taken, move)
        if word is not None:
            raise BadPlaced(index, word)
        do_placed(cells, taken, move)
    return cells


def holdings_of(bare, placed, held=()):
    """Yield the holding at the beginning and behind each move."""
    check_placed(bare, placed, held)
    moves = tuple(placed)
    cells = checked_held(bare, held)
    taken = told_back(cells)
    yield holding_of(cells)
    for move in moves:
        do_placed(cells, taken, move)
        yield holding_of(cells)


def placed_fault(bare, placed, held=()):
    """None, or what is wrong with a placed row."""
    try:
        check_placed(bare, placed, held)
    except BadPlaced as error:
        return error.what
    return None


def last_holding(bare, placed, held=()):
    """The holding behind a placed row."""
    return holding_of(check_placed(bare, placed, held))


def cells_needed(placed, held=()):
    """1 more than the greatest cell in both; nothing is checked."""
    return 1 + max([cell for _, cell in (*placed, *held)], default=-1)


def end_cell(bare, placed):
    """The cell that holds the end behind a placed row that begins from nothing."""
    cells = check_placed(bare, placed, ())
    if bare.end not in cells:
        raise NotHeld()
    return cells[bare.end]

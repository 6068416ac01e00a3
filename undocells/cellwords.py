"""What moves do to the words of cells."""

from undocells.bares import is_place
from undocells.basics import is_sequence, is_within
from undocells.errors import BadCells, BadRow
from undocells.webs import word_over
from undocells.words import check_inputs


def check_cells(web, cells):
    """The list of the words of all places' cells."""
    if not is_sequence(cells) or len(cells) != len(web.steps):
        raise BadCells(-1)
    for index, word in enumerate(cells):
        if not is_within(word, 0, (1 << web.width) - 1):
            raise BadCells(index)
    return list(cells)


def cells_behind(web, inputs, cells, row):
    """The words of the cells behind the moves of a row."""
    given = check_inputs(inputs, web.many, web.width)
    words = check_cells(web, cells)
    if not is_sequence(row):
        raise BadRow(-1, "place")
    for index, place in enumerate(row):
        if not is_place(web.bare, place):
            raise BadRow(index, "place")
    for place in row:
        words[place] ^= word_over(web.steps[place], words, given, web.width)
    return tuple(words)

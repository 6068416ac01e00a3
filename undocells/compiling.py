"""A text made into all that the package makes of it."""

from undocells.bwcode import code_of
from undocells.cells import placed_row
from undocells.circuits import circuit_of
from undocells.emit import program_of_row
from undocells.moves import check_room
from undocells.planner import chosen_row
from undocells.reader import read_text
from undocells.webmaker import web_of
from undocells.words import check_width


class Made:
    """A text's reading, and all that was made of it."""

    def __init__(self, reading, web, row, placed, statements, code, circuit):
        self.reading = reading
        self.web = web
        self.row = row
        self.placed = placed
        self.statements = statements
        self.code = code
        self.circuit = circuit

    def __eq__(self, other):
        return (isinstance(other, Made) and self.reading == other.reading and self.web == other.web
                and self.row == other.row and self.placed == other.placed and self.statements == other.statements
                and self.code == other.code and self.circuit == other.circuit)


def compile_all(text, width, room):
    """All that is made of a text for words of a width and a row within a room."""
    reading = read_text(text)
    check_width(width)
    check_room(room)
    web = web_of(reading, width)
    row = chosen_row(web.bare, room)
    placed = placed_row(web.bare, row)
    statements = program_of_row(web, placed)
    return Made(reading, web, row, placed, statements, code_of(statements, width), circuit_of(web, placed))

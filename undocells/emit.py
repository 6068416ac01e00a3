"""Placed rows as programs of the language of both ways, there and back."""

from undocells.basics import is_within
from undocells.bwprogs import Program
from undocells.bwrun import run_both
from undocells.cells import MOST_CELL, cells_needed, check_placed, checked_held, do_placed, end_cell, told_back
from undocells.errors import BadCells, NoCell, NotARow
from undocells.webs import web_worths
from undocells.words import check_inputs


def operand_expression(operand, cells):
    """An operand as an expression; cells tells the cell of each held place."""
    name, number = operand
    if name == "number":
        return ("number", number)
    if name == "given":
        return ("name", f"i{number}")
    if number not in cells:
        raise NoCell(number)
    return ("name", f"c{cells[number]}")


def step_expression(step, holding):
    """The step as an expression over inputs and cells."""
    return expression_over(step, {place: cell for place, cell in holding})


def expression_over(step, cells):
    """The step as an expression; cells tells the cell of each held place."""
    parts = tuple([operand_expression(operand, cells) for operand in step.operands])
    return parts[0] if step.kind == ("same",) else ("op", step.kind, parts)


def input_names(many):
    """The names of so many inputs."""
    return tuple([f"i{number}" for number in range(many)])


def cell_names(many):
    """The names of so many cells."""
    return tuple([f"c{number}" for number in range(many)])


def program_of_row(web, placed, cells=None, held=()):
    """The program of one routine in which each placed move is a statement."""
    check_placed(web.bare, placed, held)
    least = cells_needed(placed, held)
    if cells is not None and not is_within(cells, least, MOST_CELL + 1):
        raise BadCells(-1)
    where = checked_held(web.bare, held)
    taken = told_back(where)
    body = []
    for move in placed:
        place, cell = move
        body.append(("xor", f"c{cell}", expression_over(web.steps[place], where)))
        do_placed(where, taken, move)
    names = input_names(web.many) + cell_names(least if cells is None else cells)
    return Program([("made", names, tuple(body))])


def words_held(web, inputs, holding, cells):
    """The words of the inputs, then those of so many cells behind a holding."""
    worths = web_worths(web, inputs)
    words = [0] * cells
    for place, cell in holding:
        words[cell] = worths[place]
    return (*inputs, *words)


def check_row_names(names, many):
    """Raise the error of parameters that are not those of a row's program over so many inputs."""
    cells = len(names) - many
    if cells > MOST_CELL + 1 or names != input_names(many) + cell_names(cells):
        raise NotARow(-1)


def cell_of(name):
    """The number of the cell that a name of a row's program tells, or None for an input."""
    return int(name[1:]) if name[0] == "c" else None


def told_operand(expression, taken):
    """The operand that an expression writes, or None; taken tells the place in each held cell."""
    if expression[0] == "number":
        return expression
    if expression[0] != "name":
        return None
    cell = cell_of(expression[1])
    if cell is None:
        return ("given", int(expression[1][1:]))
    return ("place", taken[cell]) if cell in taken else None


def told_step(expression, taken):
    """The kind and the operands of the step that an expression writes; a web has it only if they are a step's."""
    if expression[0] != "op":
        return ("same",), (told_operand(expression, taken),)
    # a step of the kind same is written as its operand alone
    kind = () if expression[1] == ("same",) else expression[1]
    return kind, tuple([told_operand(part, taken) for part in expression[2]])


def told_place(statement, known, cells, taken):
    """The least place whose move a statement can be, or None; known tells the places of each kind and operands."""
    if statement[0] != "xor":
        return None
    cell = cell_of(statement[1])
    if cell is not None:
        for place in known.get(told_step(statement[2], taken), ()):
            if cells.get(place, cell) == cell and taken.get(cell, place) == place:
                return place
    return None


def placed_of_program(web, program, held=()):
    """The placed row that the last routine of a program writes."""
    cells = checked_held(web.bare, held)
    check_row_names(program.names, web.many)
    taken = told_back(cells)
    known = {}
    for place, step in enumerate(web.steps):
        known.setdefault((step.kind, step.operands), []).append(place)
    placed = []
    for index, statement in enumerate(program.routines[-1][2]):
        place = told_place(statement, known, cells, taken)
        if place is None:
            raise NotARow(index)
        move = (place, cell_of(statement[1]))
        do_placed(cells, taken, move)
        placed.append(move)
    return tuple(placed)


def run_row(web, placed, inputs):
    """The word in the end's cell behind the program of a placed row."""
    program = program_of_row(web, placed)
    cell = end_cell(web.bare, placed)
    given = check_inputs(inputs, web.many, web.width)
    words = run_both(program, web.width, given + (0,) * (len(program.names) - web.many))
    return words[web.many + cell]

"""Programs made into webs."""

from undocells.bares import reached_along
from undocells.errors import TooMany
from undocells.plain import MOST_DRAWN
from undocells.readings import drawn_size
from undocells.steps import MOST_PLACES, Step
from undocells.webs import Web, moved_operands
from undocells.words import check_width, step_word


class Maker:
    """The steps that are made so far, and how further ones are made."""

    def __init__(self, width, joined, funs):
        self.width = width
        self.joined = joined
        self.funs = funs
        self.made = []
        self.known = {}

    def number_of(self, number):
        """The operand of a number."""
        return ("number", number & (1 << self.width) - 1)

    def step_of(self, kind, operands):
        """The place of an equal step made before, or of a new one."""
        if self.joined and (kind, operands) in self.known:
            return ("place", self.known[(kind, operands)])
        if len(self.made) == MOST_PLACES:
            raise TooMany(MOST_PLACES)
        self.known[(kind, operands)] = len(self.made)
        self.made.append(Step(kind, operands))
        return ("place", len(self.made) - 1)

    def operator_of(self, kind, operands):
        """The operand for an operator over operands."""
        if kind == ("pick",):
            chosen = picked(operands)
            if chosen is not None:
                return chosen
        if all([name == "number" for name, _ in operands]):
            return ("number", step_word(kind, [number for _, number in operands], self.width))
        return self.step_of(kind, operands)


def picked(operands):
    """The operand that a pick of these surely is, or None."""
    test, yes, no = operands
    if test[0] == "number":
        return yes if test[1] else no
    return yes if yes == no else None


def take_expression(maker, expression, names):
    """The operand of an expression; names tells the operand of each name."""
    if expression[0] == "number":
        return maker.number_of(expression[1])
    if expression[0] == "name":
        return names[expression[1]]
    operands = tuple([take_expression(maker, part, names) for part in expression[2]])
    if expression[0] == "call":
        return take_fun(maker, maker.funs[expression[1]], operands)
    return maker.operator_of(expression[1], operands)


def take_fun(maker, fun, operands):
    """The operand of a fun's result with its parameters standing for these operands."""
    _, parameters, body, result = fun
    names = dict(zip(parameters, operands))
    take_statements(maker, body, names)
    return take_expression(maker, result, names)


def take_statements(maker, body, names):
    """Statements taken in order; names is changed."""
    for statement in body:
        if statement[0] == "repeat":
            for _ in range(statement[1]):
                take_block(maker, statement[2], names)
        elif statement[0] == "if":
            take_if(maker, statement, names)
        else:
            names[statement[1]] = take_expression(maker, statement[2], names)


def take_block(maker, body, names):
    """A body of its own, behind which its let names are gone."""
    take_statements(maker, body, names)
    for statement in body:
        if statement[0] == "let":
            del names[statement[1]]


def take_if(maker, statement, names):
    """An if; of a test that is no number both branches are taken, and names become picks."""
    _, expression, yes, no = statement
    test = take_expression(maker, expression, names)
    if test[0] == "number":
        take_block(maker, yes if test[1] else no, names)
        return
    yes_names, no_names = dict(names), dict(names)
    take_block(maker, yes, yes_names)
    take_block(maker, no, no_names)
    for name in list(names):
        # equal operands behind both branches are no pick, by the rule for picks
        names[name] = maker.operator_of(("pick",), (test, yes_names[name], no_names[name]))


def with_road(steps, end):
    """The steps with a road to the end, in their order, renumbered."""
    reached = reached_along([step.befores for step in steps], end) | 1 << end
    kept, places = [], {}
    for place, step in enumerate(steps):
        if reached >> place & 1:
            places[place] = len(kept)
            kept.append(Step(step.kind, moved_operands(step.operands, places)))
    return kept


def web_of(reading, width, *, joined=True):
    """The web of a program."""
    check_width(width)
    if drawn_size(reading) > MOST_DRAWN:
        raise TooMany(MOST_DRAWN)
    maker = Maker(width, joined, {fun[0]: fun for fun in reading.funs})
    many = len(reading.program[1])
    result = take_fun(maker, reading.program, [("given", number) for number in range(many)])
    if result[0] != "place":
        result = maker.step_of(("same",), (result,))
    return Web(width, many, with_road(maker.made, result[1]))

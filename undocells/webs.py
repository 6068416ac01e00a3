"""Webs of steps, and the words of their places."""

from undocells.bares import Bare, reached_along
from undocells.basics import is_sequence, is_within
from undocells.errors import BadWeb
from undocells.steps import MOST_GIVEN, MOST_PLACES, Step
from undocells.words import MOST_WIDTH, check_inputs, step_word


def check_shape(width, many, steps):
    """Raise the error of the first of these that a web cannot have."""
    if not is_within(width, 1, MOST_WIDTH):
        raise BadWeb(-1, "width")
    if not is_within(many, 0, MOST_GIVEN):
        raise BadWeb(-1, "many")
    if not is_sequence(steps) or not 1 <= len(steps) <= MOST_PLACES:
        raise BadWeb(-1, "steps")


def check_steps(steps, many):
    """Raise the error of the first thing that cannot stand at its place."""
    for place, step in enumerate(steps):
        if not isinstance(step, Step):
            raise BadWeb(place, "step")
        if step.befores and step.befores[-1] >= place:
            raise BadWeb(place, "place")
        if any([name == "given" and number >= many for name, number in step.operands]):
            raise BadWeb(place, "given")


def check_idle(steps):
    """Raise the error of the least place without a road to the last one."""
    end = len(steps) - 1
    reached = reached_along([step.befores for step in steps], end) | 1 << end
    for place in range(len(steps)):
        if not reached >> place & 1:
            raise BadWeb(place, "idle")


class Web:
    """A row of steps over so many inputs; the last place is the end."""

    def __init__(self, width, many, steps):
        check_shape(width, many, steps)
        check_steps(steps, many)
        check_idle(steps)
        self.width = width
        self.many = many
        self.steps = tuple(steps)
        self.end = len(self.steps) - 1
        self.bare = Bare([step.befores for step in self.steps], self.end)

    def __len__(self):
        return len(self.steps)

    def __iter__(self):
        return iter(self.steps)

    def __eq__(self, other):
        return (isinstance(other, Web) and self.width == other.width and self.many == other.many
                and self.steps == other.steps)


def operand_word(operand, words, inputs, width):
    """The word of an operand; words are those of the places, as far as they are needed."""
    name, number = operand
    if name == "place":
        return words[number]
    return inputs[number] if name == "given" else number & (1 << width) - 1


def word_over(step, words, inputs, width):
    """The word of a step over words of places and inputs."""
    parts = [operand_word(operand, words, inputs, width) for operand in step.operands]
    return step_word(step.kind, parts, width)


def web_worths(web, inputs):
    """The word of each place."""
    given = check_inputs(inputs, web.many, web.width)
    words = []
    for step in web.steps:
        words.append(word_over(step, words, given, web.width))
    return tuple(words)


def web_worth(web, inputs):
    """The word of the end."""
    return web_worths(web, inputs)[-1]


def moved_operands(operands, places):
    """The operands with each place replaced by its new one."""
    return tuple([("place", places[number]) if name == "place" else (name, number) for name, number in operands])


def joined_steps(web):
    """The web with equal steps fallen together, and for each old place its new one."""
    kept, numbers, places = [], {}, []
    for step in web.steps:
        operands = moved_operands(step.operands, places)
        if (step.kind, operands) not in numbers:
            numbers[(step.kind, operands)] = len(kept)
            kept.append(Step(step.kind, operands))
        places.append(numbers[(step.kind, operands)])
    return Web(web.width, web.many, kept), tuple(places)

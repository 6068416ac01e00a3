"""Webs of steps made by a fixed rule, with inputs for them."""

from helpers import Rule
from undocells.steps import Step
from undocells.webs import Web

PAIRS = ("+", "-", "*", "&", "|", "^", "==", "<")


def kind_by(rule):
    """A kind of step."""
    choice = rule.below(8)
    if choice < 5:
        return (rule.one_of(PAIRS),)
    if choice == 5:
        return (rule.one_of(("<<", ">>")), rule.one_of((0, 1, 2, 5, 12, 4095)))
    if choice == 6:
        return ("table", tuple(rule.below(4096) for _ in range(rule.one_of((1, 2, 4, 8, 16)))))
    return rule.one_of((("pick",), ("same",)))


def operands_of(kind):
    return {"pick": 3, "<<": 1, ">>": 1, "table": 1, "same": 1}.get(kind[0], 2)


def web_by(seed, most=8, width=None):
    """A web of up to so many places: each place but the last is used by a later one."""
    rule = Rule(seed)
    width = width or 1 + rule.below(5)
    many = rule.below(4)
    places = 1 + rule.below(most)
    idle, steps = [], []
    for place in range(places):
        kind = kind_by(rule)
        if place == places - 1 and len(idle) > operands_of(kind):
            # the last step cannot use them all: two at a time come together first
            while len(idle) > 2:
                steps.append(Step(("^",), [("place", idle.pop(0)), ("place", idle.pop(0))]))
                idle.append(len(steps) - 1)
            kind = ("-",)
        operands = []
        for at in range(operands_of(kind)):
            if place == places - 1 and idle or idle and rule.below(2):
                operands.append(("place", idle.pop(rule.below(len(idle)))))
            elif steps and rule.below(2):
                operands.append(("place", rule.below(len(steps))))
            elif many and rule.below(3):
                operands.append(("given", rule.below(many)))
            else:
                operands.append(("number", rule.one_of((0, 1, 2, 3, 255, 4095))))
        idle = [other for other in idle if ("place", other) not in operands]
        steps.append(Step(kind, operands))
        idle.append(len(steps) - 1)
    return Web(width, many, steps)


def inputs_for(web, seed):
    rule = Rule(seed)
    return tuple(rule.below(2 ** web.width) for _ in range(web.many))

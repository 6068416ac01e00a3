"""What the tests share: checks of errors, small webs and programs made by counting up or by a fixed rule."""

import unittest

from undocells import errors
from undocells.bares import Bare
from undocells.errors import UndoError

# every error of the interface with its attributes, in their order
ERRORS = {
    "BadText": ("spot", "what"), "BadName": ("spot", "what"), "TooMany": ("most",), "BadWidth": (),
    "BadInputs": ("index", "what"), "BadKind": (), "BadStep": (), "BadWeb": ("place", "what"),
    "BadBare": ("place", "what"), "BadBareText": ("place",), "NoPlace": ("place",), "BadPlaces": ("index",),
    "NoArrow": ("place", "before"), "BadRoom": (), "BadRow": ("index", "what"), "BadWanted": (),
    "NotShown": ("what",), "NotKept": ("what",), "NoFoot": ("what",), "BadChange": ("what",),
    "BadCells": ("index",), "NoWay": (), "Fewer": ("room",), "HasRow": ("room",), "BadPlan": ("what",),
    "BadRounds": (), "Enough": ("needed",), "Over": (), "Taken": ("place",), "BadAnswer": (), "NoTurn": (),
    "BadPainting": ("what",), "BadNaming": ("what",), "BadBook": ("what",), "BadPrime": (),
    "BadFactor": ("index",), "BadSum": ("what",), "BadPart": ("index", "what"), "NoSum": ("room",),
    "BadNeeds": ("index",), "NotTree": ("place",), "BadNumbering": ("what",), "BadLength": (), "BadNumber": (),
    "NeverStands": (), "BadProgram": ("where", "what"), "NoRoutine": ("name",), "BadFuel": (), "OutOfFuel": (),
    "Stuck": ("where", "what", "done", "words"), "BadTrail": ("index", "what"), "NoName": ("name",),
    "BadMany": (), "BadTable": ("index",), "BadHeld": ("index",), "BadPlaced": ("index", "what"),
    "NotHeld": (), "NoCell": ("place",), "NotARow": ("index",), "BadCode": ("row", "what"),
    "BadState": ("what",), "Halted": ("way",), "RowStuck": ("row", "what"), "BadWay": (),
    "BadGate": ("index", "what"), "BadBits": (), "BadDone": (), "BadFree": ("index",), "BadEdit": ("what",),
    "BadLayer": (), "NoEdit": (),
}

# things that are no sequence in the sense of the document
NO_SEQUENCES = (None, 3, "01", {0: 1}, {0, 1}, range(2), iter((0, 1)), b"01")
# things that are no whole number in the sense of the document
NO_NUMBERS = (True, False, None, "1", 1.0, (1,), [1], b"1")


def told(error):
    """An error as its name and the attributes that the interface lists, with True told apart from 1."""
    name = error.__class__.__name__
    return name, repr(tuple(getattr(error, attribute) for attribute in ERRORS[name]))


class Checks(unittest.TestCase):
    """A test case that can say which error a call must raise."""

    def fails(self, error, call, *args, **named):
        """The call raises just this error, with the same attributes."""
        with self.assertRaises(UndoError) as caught:
            call(*args, **named)
        self.assertIs(caught.exception.__class__, error.__class__)
        self.assertEqual(told(caught.exception), told(error))

    def same(self, one, other):
        """Equal to the last detail: lists are no tuples, True is not 1."""
        self.assertEqual(repr(one), repr(other))


def arrow_lists(places):
    """All befores of so many places in which each before is below its place."""
    couples = [(low, high) for high in range(places) for low in range(high)]
    for number in range(1 << len(couples)):
        befores = [[] for _ in range(places)]
        for bit, (low, high) in enumerate(couples):
            if number >> bit & 1:
                befores[high].append(low)
        yield befores


def all_reach(befores, end):
    """Whether each place has a road to the end, found by walking forward from each place."""
    def reaches(place):
        return place == end or any(reaches(k) for k, listed in enumerate(befores) if place in listed)
    return all(reaches(place) for place in range(len(befores)))


def small_bares(most, least=1):
    """All bare webs of least to most places whose befores are below their places."""
    for places in range(least, most + 1):
        for befores in arrow_lists(places):
            if all_reach(befores, places - 1):
                yield Bare(befores, places - 1)


def mixed(bare, turn=1):
    """The same web with its places numbered otherwise, by a fixed rule."""
    many = len(bare)
    number = [(many - 1 - place + turn) % many for place in range(many)]
    befores = [()] * many
    for place in range(many):
        befores[number[place]] = [number[before] for before in bare.befores[place]]
    return Bare(befores, number[bare.end])


def mixed_bares(most, least=1):
    """Small bare webs, every other one with its places numbered otherwise."""
    for count, bare in enumerate(small_bares(most, least)):
        yield mixed(bare, count) if count % 2 else bare


def some_bares(most, step, least=1):
    """Every step-th of the mixed small webs."""
    for count, bare in enumerate(mixed_bares(most, least)):
        if count % step == 0:
            yield bare


def chain(length):
    """The bare chain of so many places."""
    return Bare([[]] + [[place] for place in range(length - 1)], length - 1)


def binary_tree(depth):
    """A full binary tree of this depth, leaves first, the end last."""
    befores = [[] for _ in range(1 << depth)]
    level = list(range(1 << depth))
    while len(level) > 1:
        above = []
        for one, other in zip(level[::2], level[1::2]):
            above.append(len(befores))
            befores.append([one, other])
        level = above
    return Bare(befores, len(befores) - 1)


def numbers(seed):
    """Numbers from 0 to 32767 by a fixed rule, without an end."""
    state = seed * 2654435761 % 4294967296 + 1
    while True:
        state = (state * 1103515245 + 12345) % 2147483648
        yield state >> 16


class Rule:
    """Choices by a fixed rule: the same seed always chooses alike."""

    def __init__(self, seed):
        self.source = numbers(seed)
        for _ in range(3):
            next(self.source)

    def below(self, bound):
        return next(self.source) % bound

    def one_of(self, things):
        return things[self.below(len(things))]


def large_bares(times, places=(6, 7, 8)):
    """Bare webs of more places by a fixed rule, numbered in any order."""
    for seed in range(times):
        rule = Rule(seed)
        many = rule.one_of(places)
        befores = [[low for low in range(high) if rule.below(3) == 0] for high in range(many)]
        for place in range(many - 1):
            if not any(place in listed for listed in befores):
                befores[place + 1 + rule.below(many - 1 - place)].append(place)
        yield mixed(Bare(befores, many - 1), seed)


def every_standing(places):
    """All standings of so many places, as ascending tuples."""
    for number in range(1 << places):
        yield tuple(place for place in range(places) if number >> place & 1)


def rows_within(bare, room, rule, most):
    """A row from nothing within a room, chosen by a rule."""
    row, filled = [], set()
    for _ in range(most):
        moves = [p for p in range(len(bare)) if set(bare.befores[p]) <= filled
                 and (p in filled or len(filled) < room)]
        if not moves:
            break
        place = rule.one_of(moves)
        row.append(place)
        filled ^= {place}
    return row


def walked(bare, row, first=()):
    """The set of places filled behind a row."""
    filled = set(first)
    for place in row:
        filled ^= {place}
    return filled


def kept_row(bare, rule, most=12):
    """A kept row by a rule, with idle moves: a foot, the end, and another way back to nothing."""
    foot, filled = [], set()
    for _ in range(rule.below(most)):
        moves = [p for p in range(len(bare)) if set(bare.befores[p]) <= filled and p != bare.end]
        if moves:
            foot.append(rule.one_of(moves))
            filled ^= {foot[-1]}
    foot += [place for place in bare.ordered if place != bare.end and place not in filled]
    back = foot[::-1]
    if rule.below(2):
        back = list(bare.ordered)[:-1][::-1]
    ahead = [bare.end, bare.end] * rule.below(2)
    return foot + ahead + [bare.end] + back


def shown_row(bare, rule, most=12):
    """A shown row by a rule: a kept one and some moves that leave the end filled."""
    row = kept_row(bare, rule, most)
    filled = {bare.end}
    for _ in range(rule.below(most)):
        moves = [p for p in range(len(bare)) if set(bare.befores[p]) <= filled and p != bare.end]
        if moves:
            row.append(rule.one_of(moves))
            filled ^= {row[-1]}
    return row


def error_named(name, *attributes):
    """An error of the package by its name."""
    return getattr(errors, name)(*attributes)

"""In-trees for the tests, made by counting up or by a fixed rule."""

from itertools import product

from helpers import Rule, binary_tree, chain, mixed
from undocells.bares import Bare


def tree_of(afters):
    """The in-tree in which each place but the last has this after."""
    befores = [[] for _ in range(len(afters) + 1)]
    for place, after in enumerate(afters):
        befores[after].append(place)
    return Bare(befores, len(afters))


def all_trees(most, least=1):
    """All in-trees of least to most places whose afters are above them, every other one numbered otherwise."""
    count = 0
    for many in range(least, most + 1):
        for afters in product(*[range(place + 1, many) for place in range(many - 1)]):
            count += 1
            tree = tree_of(afters)
            yield mixed(tree, count) if count % 2 else tree


def some_trees(most, step, least=1):
    """Every step-th of these."""
    for count, tree in enumerate(all_trees(most, least)):
        if count % step == 0:
            yield tree


def made_tree(many, seed, near=None):
    """An in-tree of so many places by a rule; near bounds how far above its place an after stands."""
    rule = Rule(seed)
    afters = [place + 1 + rule.below(min(near or many, many - 1 - place)) for place in range(many - 1)]
    return mixed(tree_of(afters), seed) if many > 1 else chain(1)


def star(many):
    """The in-tree whose end has all other places as befores."""
    return tree_of([many - 1] * (many - 1))


def great_trees():
    """In-trees of up to 200 places."""
    yield chain(200)
    yield star(200)
    yield binary_tree(6)
    for seed, near in enumerate((None, 1, 2, 3, 5, 20, 60, 199)):
        yield made_tree(200 - seed, seed, near)


NO_TREES = ((Bare([[], [0], [0], [1, 2]], 3), 0), (Bare([[1], [], [0, 1]], 2), 1),
            (Bare([[], [], [0, 1], [0, 1], [2, 3]], 4), 0), (Bare([[3], [0, 3], [1], [], [2, 0]], 4), 0))

"""In-trees: their weights, and numberings of their ties."""

from undocells.bares import Bare, check_place
from undocells.basics import is_sequence, is_whole, places_in
from undocells.dealing import deal_out
from undocells.errors import BadNumbering, NotTree


def check_in_tree(bare):
    """Raise the error of the least place that is a before of two places or more."""
    for place, listed in enumerate(bare.afters):
        if len(listed) > 1:
            raise NotTree(place)


def deals_of(bare):
    """For each place its weight, and for each place but the end the share of its tie."""
    weights, shares = [0] * len(bare), [0] * len(bare)
    for place in bare.ordered:
        befores = bare.befores[place]
        weights[place], dealt = deal_out([weights[before] + 1 for before in befores])
        for before, share in zip(befores, dealt):
            shares[before] = share
    return weights, shares


def tree_weight(bare):
    """The weight of the end."""
    check_in_tree(bare)
    weights, _ = deals_of(bare)
    return weights[bare.end]


def tree_price(bare):
    """The price of an in-tree."""
    return 1 + tree_weight(bare).bit_length()


def least_numbering(bare):
    """A right numbering with the fewest numbers."""
    check_in_tree(bare)
    weights, shares = deals_of(bare)
    # the number of a tie hides all lower ones that the places under it need
    numbers = [places_in(share & ~weight)[-1:] for share, weight in zip(shares, weights)]
    return tuple([None if place == bare.end else numbers[place][0] for place in range(len(bare))])


def is_numbering(bare, numbering):
    """Whether it has a number for each tie and None for the end."""
    if not is_sequence(numbering) or len(numbering) != len(bare) or numbering[bare.end] is not None:
        return False
    numbers = [number for place, number in enumerate(numbering) if place != bare.end]
    return all([is_whole(number) and number >= 0 for number in numbers])


def ties_at(bare, place):
    """The ties that meet at a place, each told by the place whose tie it is."""
    return bare.befores[place] if place == bare.end else (place, *bare.befores[place])


def meets_equal(bare, numbering, tie):
    """Whether a way without a greater number leads from a tie to another one with the same number."""
    most = numbering[tie]
    met = {tie: True}
    waiting = [tie]
    while waiting:
        found = waiting.pop()
        beside = [*ties_at(bare, found), *ties_at(bare, bare.afters[found][0])]
        fresh = [other for other in beside if other not in met and numbering[other] <= most]
        if any([numbering[other] == most for other in fresh]):
            return True
        for other in fresh:
            met[other] = True
        waiting.extend(fresh)
    return False


def numbering_fault(bare, numbering):
    """None, or the first word of what is wrong with a numbering."""
    check_in_tree(bare)
    if not is_numbering(bare, numbering):
        return "form"
    ties = [place for place in range(len(bare)) if place != bare.end]
    return "tie" if any([meets_equal(bare, numbering, tie) for tie in ties]) else None


def check_numbering(bare, numbering):
    """Raise the error of a numbering that is not right."""
    word = numbering_fault(bare, numbering)
    if word is not None:
        raise BadNumbering(word)


def road_from(bare, place):
    """The places on the road from a place to the end, both told."""
    road = [place]
    while road[-1] != bare.end:
        road.append(bare.afters[road[-1]][0])
    return road


def tree_turned(bare, end):
    """The in-tree with its arrows turned to lead to this place."""
    check_in_tree(bare)
    road = road_from(bare, check_place(bare, end))
    befores = [list(listed) for listed in bare.befores]
    for place, after in zip(road, road[1:]):
        befores[after].remove(place)
        befores[place].append(after)
    return Bare(befores, end)


def numbering_turned(bare, numbering, end):
    """The same numbering of the ties, told for the turned tree."""
    check_numbering(bare, numbering)
    road = road_from(bare, check_place(bare, end))
    numbers = list(numbering)
    numbers[end] = None
    for place, after in zip(road, road[1:]):
        numbers[after] = numbering[place]
    return tuple(numbers)

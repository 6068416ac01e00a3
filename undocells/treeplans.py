"""Plans made of numberings of an in-tree's ties, and numberings made of plans."""

from undocells.bares import reached_along
from undocells.basics import places_in
from undocells.errors import BadPlan
from undocells.plans import plan_fault
from undocells.ties import check_in_tree, check_numbering


def whole_piece(bare):
    """All places as binary ones."""
    return (1 << len(bare)) - 1


def part_of(bare, place, piece):
    """The places of a piece from which a road leads to this one, itself too, as binary ones."""
    return reached_along(bare.befores, place, ~piece) | 1 << place


def plan_of_numbering(bare, numbering):
    """The plan that fills the place whose tie has the greatest number left."""
    check_numbering(bare, numbering)
    return plan_in(bare, numbering, bare.end, whole_piece(bare))


def plan_in(bare, numbering, asked, piece):
    """The plan for an asked place and the places that still bear on it, as binary ones."""
    ties = places_in(piece & ~(1 << asked))
    if ties == ():
        return ()
    place = ties[0]
    for other in ties:
        if numbering[other] > numbering[place]:
            place = other
    part = part_of(bare, place, piece)
    stayed = plan_in(bare, numbering, asked, piece & ~part)
    return (place, stayed, plan_in(bare, numbering, place, part))


def numbering_of_plan(bare, plan):
    """A right numbering whose greatest number is below the length of the plan."""
    check_in_tree(bare)
    word = plan_fault(bare, plan)
    if word is not None:
        raise BadPlan(word)
    numbers = [None] * len(bare)
    number_ties(bare, plan, bare.end, whole_piece(bare), numbers)
    return tuple(numbers)


def number_ties(bare, plan, asked, piece, numbers):
    """Number the ties of a piece by a plan for its asked place, and tell the greatest number, -1 without any."""
    if piece == 1 << asked:
        return -1
    place, stayed, gone = plan
    while not piece >> place & 1:
        place, stayed, gone = stayed
    part = part_of(bare, place, piece)
    greatest = number_ties(bare, stayed, asked, piece & ~part, numbers)
    greatest = max(greatest, number_ties(bare, gone, place, part, numbers))
    numbers[place] = greatest + 1
    return greatest + 1

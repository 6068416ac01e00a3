"""The game of the namer and the painter: paintings, and how many names are needed."""

from undocells.bares import is_place
from undocells.basics import is_sequence, mask_of
from undocells.errors import BadPainting
from undocells.search import check_small


def is_unlike(bare, thing):
    """Whether it is a sequence of unlike places."""
    if not is_sequence(thing) or not all([is_place(bare, place) for place in thing]):
        return False
    return len(set(thing)) == len(thing)


def check_painting(bare, painting):
    """The red and the blue places, each ascending."""
    check_small(bare)
    if not is_sequence(painting) or len(painting) != 2:
        raise BadPainting("painting")
    reds, blues = painting
    if not is_unlike(bare, reds) or len(reds) == 0:
        raise BadPainting("reds")
    if not is_unlike(bare, blues):
        raise BadPainting("blues")
    if any([place in reds for place in blues]):
        raise BadPainting("both")
    return tuple(sorted(reds)), tuple(sorted(blues))


def checked_hues(bare, painting):
    """A painting as binary ones."""
    reds, blues = check_painting(bare, painting)
    return mask_of(reds), mask_of(blues)


def first_hues(bare):
    """The first painting as binary ones: the end is red."""
    return 1 << bare.end, 0


def is_painted_over(bare, hues):
    """Whether a red place has blue befores alone; the painting is told as binary ones."""
    reds, blues = hues
    for place, need in enumerate(bare.needs):
        if reds >> place & 1 and need & ~blues == 0:
            return True
    return False


def unpainted(bare, hues):
    """The places that are not yet painted."""
    taken = hues[0] | hues[1]
    return [place for place in range(len(bare)) if not taken >> place & 1]


def painted(hues, place, is_red):
    """The painting with one more place painted."""
    reds, blues = hues
    return (reds | 1 << place, blues) if is_red else (reds, blues | 1 << place)


def names_behind(bare, hues, known):
    """How many names a painting still needs; known keeps what is worked out, and is changed."""
    if hues not in known:
        known[hues] = 0
        if not is_painted_over(bare, hues):
            known[hues] = 1 + min([worse_hue(bare, hues, place, known) for place in unpainted(bare, hues)])
    return known[hues]


def worse_hue(bare, hues, place, known):
    """The greater number of names that is still needed behind the two hues of a place."""
    red = names_behind(bare, painted(hues, place, True), known)
    return max(red, names_behind(bare, painted(hues, place, False), known))


def names_left(bare, painting):
    """How many names a painting still needs."""
    return names_behind(bare, checked_hues(bare, painting), {})


def names_of(bare):
    """How many names the whole game needs, which is the price."""
    check_small(bare)
    return 1 + names_behind(bare, first_hues(bare), {})

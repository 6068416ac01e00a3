"""Books of the painter, which tell what is painted red."""

from undocells.basics import mask_of, places_in
from undocells.books import check_rounds
from undocells.closed import is_standing
from undocells.errors import Enough
from undocells.hues import first_hues, is_painted_over, names_behind, painted, unpainted
from undocells.search import check_small


def is_painter_entry(bare, entry):
    """Whether it is a painting and places that are to be red."""
    if not isinstance(entry, tuple) or len(entry) != 3 or not all([is_standing(bare, part) for part in entry]):
        return False
    reds, blues, _ = entry
    return reds != () and not any([place in reds for place in blues])


def hues_of(entry):
    """The painting of an entry as binary ones."""
    return mask_of(entry[0]), mask_of(entry[1])


def count_painted(hues):
    """How many places are painted."""
    return len(places_in(hues[0] | hues[1]))


def hues_behind(bare, hues, reddened):
    """The paintings to which naming one place leads; reddened are the places that are painted red."""
    return [painted(hues, place, place in reddened) for place in unpainted(bare, hues)]


def reached_hues(bare, told, names):
    """All paintings that are reached; told has for paintings the places that are to be red."""
    first = first_hues(bare)
    reached, waiting = {first: True}, [first]
    while waiting:
        hues = waiting.pop()
        if hues in told and count_painted(hues) < names:
            fresh = [other for other in hues_behind(bare, hues, told[hues]) if other not in reached]
            for other in fresh:
                reached[other] = True
            waiting.extend(fresh)
    return list(reached)


def painter_fault(bare, book, names):
    """None, or the first word of what is wrong with a painter's book."""
    check_small(bare)
    check_rounds(names)
    if not isinstance(book, tuple) or not all([is_painter_entry(bare, entry) for entry in book]):
        return "form"
    told = {hues_of(entry): entry[2] for entry in book}
    if len(told) < len(book):
        return "twice"
    if any([place in entry[0] or place in entry[1] for entry in book for place in entry[2]]):
        return "reddened"
    reached = reached_hues(bare, told, names)
    if any([is_painted_over(bare, hues) for hues in reached]):
        return "over"
    missing = [hues for hues in reached if hues not in told and count_painted(hues) < names]
    return "missing" if missing else None


def painter_book(bare, names):
    """The book that holds out so many names, painting blue wherever it can."""
    check_small(bare)
    check_rounds(names)
    known = {}
    needed = 1 + names_behind(bare, first_hues(bare), known)
    if needed <= names:
        raise Enough(needed)
    told, waiting = {}, [first_hues(bare)]
    while waiting:
        hues = waiting.pop()
        if hues not in told and count_painted(hues) < names:
            told[hues] = reddened_at(bare, hues, names, known)
            waiting.extend(hues_behind(bare, hues, told[hues]))
    return book_of(told)


def reddened_at(bare, hues, names, known):
    """The places that must be painted red for the painter to hold out."""
    left = names - count_painted(hues) - 1
    reddened = [place for place in unpainted(bare, hues)
                if names_behind(bare, painted(hues, place, False), known) <= left]
    return tuple(reddened)


def book_of(told):
    """The entries of a painter's book, ascending; told has for paintings the places that are to be red."""
    return tuple(sorted([(places_in(reds), places_in(blues), told[(reds, blues)]) for reds, blues in told]))

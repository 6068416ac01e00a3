"""Bare webs: places, what stands before what, and the end."""

from undocells.basics import is_sequence, is_within, mask_of, places_in
from undocells.errors import BadBare, BadBareText, BadPlaces, NoArrow, NoPlace
from undocells.lex import FIGURES
from undocells.steps import MOST_PLACES

MOST_BARE_TEXT = 100000


def is_place(bare, thing):
    """Whether it is a place of the web."""
    return is_within(thing, 0, len(bare.befores) - 1)


def check_place(bare, place):
    """The place itself, if the web has it."""
    if not is_place(bare, place):
        raise NoPlace(place)
    return place


def check_places(bare, places):
    """Unlike places in any order as an ascending tuple."""
    if not is_sequence(places):
        raise BadPlaces(-1)
    found = 0
    for index, place in enumerate(places):
        if not is_place(bare, place) or found >> place & 1:
            raise BadPlaces(index)
        found |= 1 << place
    return places_in(found)


def is_before_list(thing, place, many):
    """Whether these can be the befores of a place of a web with so many places."""
    if not is_sequence(thing) or not all([is_within(before, 0, many - 1) for before in thing]):
        return False
    return place not in thing and len(set(thing)) == len(thing)


def checked_befores(befores):
    """The befores of all places, each ascending."""
    if not is_sequence(befores) or not 1 <= len(befores) <= MOST_PLACES:
        raise BadBare(-1, "many")
    for place, listed in enumerate(befores):
        if not is_before_list(listed, place, len(befores)):
            raise BadBare(place, "place")
    return tuple([tuple(sorted(listed)) for listed in befores])


def afters_of(befores):
    """For each place the places that it is a before of, ascending."""
    afters = [[] for _ in befores]
    for place, listed in enumerate(befores):
        for before in listed:
            afters[before].append(place)
    return tuple([tuple(listed) for listed in afters])


def ordered_of(befores, afters):
    """The places, each time the least one whose befores are all listed; places on rings never come."""
    missing = [len(listed) for listed in befores]
    ready = mask_of([place for place, many in enumerate(missing) if many == 0])
    ordered = []
    while ready:
        lowest = ready & -ready
        place = lowest.bit_length() - 1
        ready ^= lowest
        ordered.append(place)
        for after in afters[place]:
            missing[after] -= 1
            if missing[after] == 0:
                ready |= 1 << after
    return tuple(ordered)


def reached_along(arrows, place, barred=0):
    """The places to which these arrows lead from a place past the barred ones, both as binary ones."""
    reached = 0
    waiting = list(arrows[place])
    while waiting:
        found = waiting.pop()
        if not (reached | barred) >> found & 1:
            reached |= 1 << found
            waiting.extend(arrows[found])
    return reached


def check_rings(befores):
    """Raise the error of the least place that lies on a ring."""
    for place in range(len(befores)):
        if reached_along(befores, place) >> place & 1:
            raise BadBare(place, "ring")


def check_roads(befores, end):
    """Raise the error of the least place without a road to the end."""
    reached = reached_along(befores, end) | 1 << end
    for place in range(len(befores)):
        if not reached >> place & 1:
            raise BadBare(place, "idle")


class Bare:
    """A web of which the arrows are left."""

    def __init__(self, befores, end):
        self.befores = checked_befores(befores)
        if not is_place(self, end):
            raise BadBare(-1, "end")
        self.end = end
        self.afters = afters_of(self.befores)
        self.ordered = ordered_of(self.befores, self.afters)
        if len(self.ordered) < len(self.befores):
            check_rings(self.befores)
        check_roads(self.befores, end)
        # the befores once more, as binary ones: a move needs them all at once
        self.needs = tuple([mask_of(listed) for listed in self.befores])

    def __len__(self):
        return len(self.befores)

    def __eq__(self, other):
        return isinstance(other, Bare) and self.befores == other.befores and self.end == other.end


def places_under(bare, place):
    """The other places with a road to the place, ascending."""
    return places_in(reached_along(bare.befores, check_place(bare, place)))


def unders_of(bare):
    """For each place the places under it, as binary ones."""
    unders = [0] * len(bare)
    for place in bare.ordered:
        for before in bare.befores[place]:
            unders[place] = unders[place] | unders[before] | 1 << before
    return unders


def part_bare(bare, place):
    """The place and those under it as a bare web of their own, and their old numbers."""
    places = tuple(sorted([place, *places_under(bare, place)]))
    numbers = {old: new for new, old in enumerate(places)}
    befores = [[numbers[before] for before in bare.befores[old]] for old in places]
    return Bare(befores, numbers[place]), places


def struck_arrow(bare, place, before):
    """The web without one arrow."""
    check_place(bare, place)
    if not is_place(bare, before) or before not in bare.befores[place]:
        raise NoArrow(place, before)
    befores = list(bare.befores)
    befores[place] = [other for other in befores[place] if other != before]
    return Bare(befores, bare.end)


def renumbered(bare, places):
    """The web in which place k has the number places[k]."""
    if len(check_places(bare, places)) != len(bare):
        raise BadPlaces(-1)
    befores = [()] * len(bare)
    for old, listed in enumerate(bare.befores):
        befores[places[old]] = [places[before] for before in listed]
    return Bare(befores, places[bare.end])


def bare_text(bare):
    """The end and the befores of all places as a text."""
    parts = [" ".join([str(before) for before in listed]) or "-" for listed in bare.befores]
    listing = "; ".join(parts)
    return f"{bare.end}: {listing}"


def told_number(figures):
    """The number from 0 to 999 that these figures write, or None."""
    if not 1 <= len(figures) <= 3 or len(figures) > 1 and figures[0] == "0":
        return None
    if not all([figure in FIGURES for figure in figures]):
        return None
    return int(figures)


def told_befores(part):
    """The befores that a part of a bare web's text writes, or None."""
    if part == "-":
        return ()
    numbers = []
    for figures in part.split(" "):
        number = told_number(figures)
        if number is None or numbers and number <= numbers[-1]:
            return None
        numbers.append(number)
    return numbers


def read_bare(text):
    """The bare web that a text of bare_text writes."""
    if not isinstance(text, str) or len(text) > MOST_BARE_TEXT:
        raise BadBareText(-1)
    head, colon, listing = text.partition(": ")
    end = told_number(head)
    if not colon or end is None:
        raise BadBareText(-1)
    befores = []
    for index, part in enumerate(listing.split("; ")):
        listed = told_befores(part)
        if listed is None:
            raise BadBareText(index)
        befores.append(listed)
    return Bare(befores, end)

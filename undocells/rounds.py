"""The game of the asker and the challenger: how many rounds are needed."""

from undocells.bares import check_place, check_places
from undocells.basics import mask_of, places_in
from undocells.search import check_small


def told_state(bare, asked, filled):
    """The asked place, None being the end, and the filled places without it as binary ones."""
    place = bare.end if asked is None else check_place(bare, asked)
    return place, mask_of(check_places(bare, filled)) & ~(1 << place)


def is_ready(bare, asked, filled):
    """Whether a state is settled; the filled places are told as binary ones."""
    return bare.needs[asked] & ~filled == 0


def is_settled(bare, asked, filled):
    """Whether all befores of the asked place are filled."""
    place, standing = told_state(bare, asked, filled)
    return is_ready(bare, place, standing)


def answers_of(asked, filled, place):
    """The two states behind filling a place: after staying, and after going over."""
    return (asked, filled | 1 << place), (place, filled | 1 << asked)


def fillable(bare, asked, filled):
    """The places that may be filled in a state."""
    taken = filled | 1 << asked
    return [place for place in range(len(bare)) if not taken >> place & 1]


def needed_in(bare, asked, filled, known):
    """How many rounds a state still needs; known keeps what is worked out, and is changed."""
    if is_ready(bare, asked, filled):
        return 0
    state = (asked, filled)
    if state not in known:
        worse = [worse_of(bare, answers_of(asked, filled, place), known) for place in fillable(bare, asked, filled)]
        known[state] = 1 + min(worse)
    return known[state]


def worse_of(bare, answers, known):
    """The greater number of rounds that is still needed behind the two answers."""
    stayed, gone = answers
    return max(needed_in(bare, stayed[0], stayed[1], known), needed_in(bare, gone[0], gone[1], known))


def still_needed(bare, asked=None, filled=()):
    """How many rounds a state still needs."""
    place, standing = told_state(bare, asked, filled)
    check_small(bare)
    return needed_in(bare, place, standing, {})


def rounds_of(bare):
    """The length of the whole game, which is the price."""
    return 1 + still_needed(bare)


def needed_table(bare):
    """(filled, asked, needed) for all states, ascending."""
    check_small(bare)
    known, rows = {}, []
    for asked in range(len(bare)):
        for standing in range(1 << len(bare)):
            if not standing >> asked & 1:
                rows.append((places_in(standing), asked, needed_in(bare, asked, standing, known)))
    return tuple(sorted(rows))

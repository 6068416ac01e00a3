"""Chains of any length, and their told rows, which are not walked."""

from undocells.bares import Bare
from undocells.basics import is_sequence, is_within
from undocells.errors import BadLength, BadNumber, BadPlaces, NeverStands, TooMany
from undocells.moves import check_room
from undocells.steps import MOST_PLACES

MOST_LENGTH = 1000000000000000000000000000000


def check_length(length):
    """The length itself, if a chain may have it."""
    if not is_within(length, 1, MOST_LENGTH):
        raise BadLength()
    return length


def chain_bare(length):
    """The chain of this length as a bare web."""
    if check_length(length) > MOST_PLACES:
        raise TooMany(MOST_PLACES)
    return Bare([[]] + [[place] for place in range(length - 1)], length - 1)


def chain_price(length):
    """The price of the chain of this length."""
    return 1 + (check_length(length) - 1).bit_length()


def longest_chain(cells):
    """The greatest length with a price of at most so many cells."""
    return 1 << check_room(cells) - 1


def moves_of(length, known):
    """How many moves the told row has; known keeps what is worked out, and is changed."""
    if length == 1:
        return 1
    if length not in known:
        half = length // 2
        known[length] = 2 * moves_of(half, known) + moves_of(length - half, known)
    return known[length]


def chain_moves(length):
    """How many moves the told row has."""
    return moves_of(check_length(length), {})


def chain_move(length, number):
    """The place that the told row moves as its move of this number."""
    if not is_within(number, 0, chain_moves(length) - 1):
        raise BadNumber()
    known, first, many, left = {}, 0, length, number
    while many > 1:
        half = many // 2
        there, rest = moves_of(half, known), moves_of(many - half, known)
        if there <= left < there + rest:
            first, many, left = first + half, many - half, left - there
        else:
            # the way back does the same moves in the other order
            many, left = half, left if left < there else 2 * there + rest - 1 - left
    return first


def chain_standing(length, number):
    """The standing behind so many moves of the told row."""
    if not is_within(number, 0, chain_moves(length)):
        raise BadNumber()
    known, first, many, left, filled = {}, 0, length, number, []
    while many > 1:
        half = many // 2
        there, rest = moves_of(half, known), moves_of(many - half, known)
        if there <= left <= there + rest:
            filled.append(first + half - 1)
            first, many, left = first + half, many - half, left - there
        elif left < there:
            many = half
        else:
            filled.append(first + many - 1)
            many, left = half, 2 * there + rest - left
    return tuple(sorted(filled + [first] * left))


def check_standing(length, standing):
    """The places of a standing in any order, ascending."""
    if not is_sequence(standing):
        raise BadPlaces(-1)
    met = {}
    for index, place in enumerate(standing):
        if not is_within(place, 0, length - 1) or place in met:
            raise BadPlaces(index)
        met[place] = True
    return sorted(standing)


def chain_number(length, standing):
    """The number of moves of the told row behind which a standing is met."""
    check_length(length)
    places = check_standing(length, standing)
    # the number is base + sign * the number of moves in the part of the chain that is left
    known, first, many, base, sign = {}, 0, length, 0, 1
    while many > 1:
        half = many // 2
        there, rest = moves_of(half, known), moves_of(many - half, known)
        later = [place for place in places if place >= first + half]
        ahead = places[:len(places) - len(later)]
        if not later:
            many = half
        elif ahead == [first + half - 1]:
            base += sign * there
            first, many, places = first + half, many - half, later
        elif later == [first + many - 1]:
            base += sign * (2 * there + rest)
            sign, many, places = -sign, half, ahead
        else:
            raise NeverStands()
    return base + sign * len(places)

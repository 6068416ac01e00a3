"""Free places, which have a cell of their own beside the room, and the rows that they allow."""

from heapq import heappop, heappush

from undocells.bares import is_place
from undocells.basics import is_sequence, mask_of, places_in
from undocells.chains import check_length
from undocells.errors import BadFree
from undocells.moves import check_room, check_row
from undocells.search import MOST_SEARCHED, check_small, moves_at


def check_free(bare, free):
    """The free places in ascending order."""
    if not is_sequence(free):
        raise BadFree(-1)
    found = 0
    for index, place in enumerate(free):
        if not is_place(bare, place) or place == bare.end or found >> place & 1:
            raise BadFree(index)
        found |= 1 << place
    return places_in(found)


def free_peak(bare, free, row):
    """The greatest number of filled places outside free."""
    beside = mask_of(check_free(bare, free))
    standing, held, peak = 0, 0, 0
    for place in check_row(bare, row):
        standing ^= 1 << place
        if not beside >> place & 1:
            held += 1 if standing >> place & 1 else -1
            peak = max(peak, held)
    return peak


def least_peaks(bare, beside):
    """(peaks, befores): for each standing the least peak on the way to it, and the one ahead of it on this way."""
    peaks, befores = {0: 0}, {}
    waiting = [(0, 0)]
    while waiting:
        peak, standing = heappop(waiting)
        for _, after in moves_at(bare, standing, 0, MOST_SEARCHED):
            # standings come with rising peaks, so the first way to one is the best
            if after not in peaks:
                peaks[after] = max(peak, len(places_in(after & ~beside)))
                befores[after] = standing
                heappush(waiting, (peaks[after], after))
    return peaks, befores


def price_beside(bare, beside):
    """The least peak of all kept rows; the free places are binary ones."""
    peaks, _ = least_peaks(bare, beside)
    return peaks[1 << bare.end]


def free_price(bare, free):
    """The least peak of all kept rows."""
    places = check_free(bare, free)
    check_small(bare)
    return price_beside(bare, mask_of(places))


def lots_of(places):
    """All lots of these places, those with fewer places first, and of these the first of the tuples."""
    lots = [()]
    for place in places:
        lots = lots + [(*lot, place) for lot in lots]
    return sorted(lots, key=lambda lot: (len(lot), lot))


def first_lot(bare, places, price):
    """The first lot of these places with a free price of at most this."""
    for lot in lots_of(places):
        if price_beside(bare, mask_of(lot)) <= price:
            return lot
    return places


def used_free(bare, free):
    """The lot of free places that is enough."""
    places = check_free(bare, free)
    check_small(bare)
    # fewer free places never make the price less
    return first_lot(bare, places, price_beside(bare, mask_of(places)))


def free_row(bare, free):
    """A kept row whose peak is the free price."""
    places = check_free(bare, free)
    check_small(bare)
    _, befores = least_peaks(bare, mask_of(places))
    moves, standing = [], 1 << bare.end
    while standing:
        moves.append((standing ^ befores[standing]).bit_length() - 1)
        standing = befores[standing]
    return tuple(moves[::-1])


def fewest_free(bare, room):
    """The fewest free places with which the free price is at most the room."""
    check_room(room)
    check_small(bare)
    return first_lot(bare, [place for place in range(len(bare)) if place != bare.end], room)


def chain_free(length, room):
    """How many free places bring a chain's free price down to the room."""
    check_length(length)
    check_room(room)
    return (length - 1) // (1 << room - 1)

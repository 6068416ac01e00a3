"""Plans and rows of great webs: each piece is cut where the greater of its two parts is least."""

from undocells.bares import check_place, check_places, reached_along
from undocells.basics import mask_of, places_in
from undocells.errors import Fewer, TooMany
from undocells.moves import MOST_MOVES, check_room, row_back
from undocells.search import MOST_SEARCHED, fewest_moves


def piece_of(bare, asked, filled):
    """The asked place and all places with a road to it on which no place is filled, ascending."""
    check_place(bare, asked)
    standing = mask_of(check_places(bare, filled))
    return places_in(reached_along(bare.befores, asked, standing) | 1 << asked)


def size_of(mask):
    """How many binary ones a number has."""
    figures = f"{mask:b}"
    return figures.count("1")


def least_moves(size):
    """The fewest moves of a row for a piece of so many places: all but one are filled and cleared."""
    return 2 * size - 1


def parts_moves(stay, go):
    """The fewest moves of a row that does one part of a piece, and the other one there and back."""
    return least_moves(size_of(stay)) + 2 * least_moves(size_of(go))


class Walk:
    """How the pieces of a web fall apart. Places are told by their numbers in its order, befores first."""

    def __init__(self, bare):
        numbers = {place: number for number, place in enumerate(bare.ordered)}
        self.places = bare.ordered
        self.befores = [[numbers[before] for before in bare.befores[place]] for place in bare.ordered]
        self.afters = [[numbers[after] for after in bare.afters[place]] for place in bare.ordered]
        self.end = len(bare) - 1
        self.whole = (1 << len(bare)) - 1
        # no row of what was walked through has fewer moves than this
        self.bound = least_moves(len(bare))
        self.cuts = {}

    def raise_bound(self, more):
        """Raise the bound, and the error if it is too great."""
        self.bound += more
        if self.bound > MOST_MOVES:
            raise TooMany(MOST_MOVES)

    def cut(self, asked, piece):
        """(first place, piece behind staying, piece behind going over) of a piece of two places or more."""
        if (asked, piece) not in self.cuts:
            self.cuts[(asked, piece)] = best_cut(self, asked, piece)
        return self.cuts[(asked, piece)]


def best_cut(walk, asked, piece):
    """The cut of a piece at its first place."""
    inner = places_in(piece)
    under = parts_under(walk, inner, piece)
    lost, many = parts_lost(walk, asked, inner, piece)
    triples = []
    for place in inner:
        if place != asked:
            gone = size_of(under[place])
            triples.append((max(len(inner) - many[place], gone), gone, walk.places[place], place))
    first = min(triples)[3]
    return first, piece & ~lost[first], under[first]


def parts_under(walk, inner, piece):
    """For each place of a piece the places of it with a road to that one, itself too, as binary ones."""
    under = {}
    for place in inner:
        part = 1 << place
        for before in walk.befores[place]:
            if piece >> before & 1:
                part |= under[before]
        under[place] = part
    return under


def parts_lost(walk, asked, inner, piece):
    """For each place of a piece those that bear on the asked one only through it, as binary ones, and how many."""
    through = {asked: 1 << asked}
    lost = {place: 1 << place for place in inner}
    many = {place: 1 for place in inner}
    for place in reversed(inner):
        if place != asked:
            shared = piece
            for after in walk.afters[place]:
                if piece >> after & 1:
                    shared &= through[after]
            through[place] = shared | 1 << place
    for place in inner:
        if place != asked:
            # all roads lead through the lowest of these next
            shared = through[place] ^ 1 << place
            following = (shared & -shared).bit_length() - 1
            lost[following] = lost[following] | lost[place]
            many[following] = many[following] + many[place]
    return lost, many


def planned(walk, asked, piece, times, known):
    """(moves, length, plan) of a piece; its row is done so many times, and known keeps what is worked out."""
    size = size_of(piece)
    if size == 1:
        return 1, 0, ()
    if (asked, piece) in known:
        walk.raise_bound(times * (known[(asked, piece)][0] - least_moves(size)))
        return known[(asked, piece)]
    place, stay, go = walk.cut(asked, piece)
    walk.raise_bound(times * (parts_moves(stay, go) - least_moves(size)))
    stay_moves, stay_length, stayed = planned(walk, asked, stay, times, known)
    go_moves, go_length, gone = planned(walk, place, go, 2 * times, known)
    told = (walk.places[place], stayed, gone)
    known[(asked, piece)] = (stay_moves + 2 * go_moves, 1 + max(stay_length, go_length), told)
    return known[(asked, piece)]


def great_plan(bare):
    """The plan that fills the first place in each state."""
    walk = Walk(bare)
    _, _, plan = planned(walk, walk.end, walk.whole, 1, {})
    return plan


def great_cells(bare):
    """1 more than the length of the great plan."""
    walk = Walk(bare)
    _, length, _ = planned(walk, walk.end, walk.whole, 1, {})
    return 1 + length


def check_fits(walk, room):
    """Raise the error of a room below the great cells."""
    least, waiting, many = {}, [(walk.end, walk.whole, room)], 0
    while waiting:
        asked, piece, cells = waiting.pop()
        if size_of(piece) <= cells or least.get((asked, piece), cells + 1) <= cells:
            continue
        if cells == 0:
            raise Fewer(room)
        least[(asked, piece)] = cells
        # each of these stands in the row with a move of its own
        many += 1
        if many > MOST_MOVES:
            raise TooMany(MOST_MOVES)
        place, stay, go = walk.cut(asked, piece)
        waiting.append((place, go, cells - 1))
        waiting.append((asked, stay, cells - 1))


def rowed(walk, asked, piece, room, known):
    """The row of a piece within a room; known keeps what is worked out, and is changed."""
    size = size_of(piece)
    if size <= room:
        inner = [walk.places[place] for place in places_in(piece)]
        return tuple(inner + inner[:-1][::-1])
    key = (asked, piece, room)
    if key in known:
        walk.raise_bound(len(known[key]) - least_moves(size))
        return known[key]
    place, stay, go = walk.cut(asked, piece)
    walk.raise_bound(parts_moves(stay, go) - least_moves(size))
    there = rowed(walk, place, go, room, known)
    between = rowed(walk, asked, stay, room - 1, known)
    back = row_back(rowed(walk, place, go, room - 1, known))
    known[key] = there + between + back
    return known[key]


def great_row(bare, room=None):
    """The kept row of the great plan, with all that the room allows to be left filled."""
    cells = great_cells(bare) if room is None else check_room(room)
    walk = Walk(bare)
    check_fits(walk, cells)
    return rowed(walk, walk.end, walk.whole, cells, {})


def chosen_row(bare, room):
    """The row with the fewest moves for a small web, else the great row."""
    return fewest_moves(bare, room) if len(bare) <= MOST_SEARCHED else great_row(bare, room)

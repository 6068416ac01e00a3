"""Prices of small webs, found by going through all standings."""

from undocells.bares import check_places
from undocells.basics import mask_of, places_in
from undocells.errors import Fewer, NoWay, TooMany
from undocells.moves import check_room

MOST_SEARCHED = 8


def check_small(bare):
    """The web itself, if all its standings can be gone through."""
    if len(bare) > MOST_SEARCHED:
        raise TooMany(MOST_SEARCHED)
    return bare


def moves_at(bare, standing, many, room):
    """(place, standing behind it) for each move that can be done at a standing of so many places."""
    found = []
    for place, need in enumerate(bare.needs):
        after = standing ^ 1 << place
        if not need & ~standing and (after < standing or many < room):
            found.append((place, after))
    return found


def distances_from(bare, room, start):
    """For each standing reached from start within the room the fewest moves, nearest first."""
    counts = {start: len(places_in(start))}
    if counts[start] > room:
        return {}
    distances, waiting = {start: 0}, [start]
    # the list grows while it is gone through, so it is walked by index
    at = 0
    while at < len(waiting):
        standing = waiting[at]
        for _, after in moves_at(bare, standing, counts[standing], room):
            if after not in distances:
                distances[after] = distances[standing] + 1
                counts[after] = counts[standing] + (1 if after > standing else -1)
                waiting.append(after)
        at += 1
    return distances


def reached_standings(bare, room):
    """All standings that rows from nothing reach within the room."""
    check_room(room)
    check_small(bare)
    standings = [places_in(standing) for standing in distances_from(bare, room, 0)]
    return tuple(sorted(standings, key=lambda standing: (len(standing), standing)))


def least_way(bare, room, first, last):
    """The way with the fewest moves, and of several the first."""
    check_room(room)
    start = mask_of(check_places(bare, first))
    goal = mask_of(check_places(bare, last))
    check_small(bare)
    way = way_between(bare, room, start, goal)
    if way is None:
        raise NoWay()
    return way


def way_between(bare, room, start, goal):
    """The least way between two standings told as binary ones, or None."""
    # each move is its own way back, so distances from the goal are those to it
    distances = distances_from(bare, room, goal)
    if start not in distances:
        return None
    way, standing = [], start
    while standing != goal:
        nearer = [move for move in moves_at(bare, standing, len(places_in(standing)), room)
                  if distances[move[1]] < distances[standing]]
        place, standing = nearer[0]
        way.append(place)
    return tuple(way)


def least_room(bare, is_wanted):
    """The least room in which a standing that is wanted is reached from nothing."""
    room = 1
    while not any([is_wanted(standing) for standing in distances_from(bare, room, 0)]):
        room += 1
    return room


def price_of(bare):
    """The least room of a kept row."""
    check_small(bare)
    return least_room(bare, lambda standing: standing == 1 << bare.end)


def shown_price_of(bare):
    """The least room of a shown row."""
    check_small(bare)
    return least_room(bare, lambda standing: standing >> bare.end & 1 == 1)


def ready_price_of(bare):
    """The least room of a row to a standing in which all befores of the end are filled."""
    check_small(bare)
    need = bare.needs[bare.end]
    return least_room(bare, lambda standing: need & ~standing == 0) if need else 0


def fewest_moves(bare, room):
    """The kept row within the room that has the fewest moves, and of several the first."""
    check_room(room)
    check_small(bare)
    row = way_between(bare, room, 0, 1 << bare.end)
    if row is None:
        raise Fewer(room)
    return row

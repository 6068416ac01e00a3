"""Right sums with the fewest lines, and what lots of standings hold of a sum."""

from undocells.errors import NoSum
from undocells.factors import all_added, check_prime
from undocells.moves import check_room
from undocells.search import check_small, distances_from, way_between
from undocells.sums import multiplied_out, sum_of_row


def least_sum(bare, room, prime=0, *, shown=False):
    """A right sum within the room that has the fewest lines, a kept one unless shown is True."""
    check_small(bare)
    check_room(room)
    check_prime(prime)
    # no sum has fewer lines than the shortest row has moves, and each of these moves is a line of its own
    row = shortest_row(bare, room, shown)
    if row is None:
        raise NoSum(room)
    return sum_of_row(bare, row, prime)


def shortest_row(bare, room, shown):
    """The kept or shown row within the room that has the fewest moves, or None."""
    if not shown:
        return way_between(bare, room, 0, 1 << bare.end)
    for standing in distances_from(bare, room, 0):
        # nearest standings come first
        if standing >> bare.end & 1:
            return way_between(bare, room, 0, standing)
    return None


def factor_within(one_sum, lot):
    """The sum of the factors of the multiplied sum whose products are in the lot."""
    within = {product: True for product in lot}
    factors = [factor for product, factor in multiplied_out(one_sum) if product in within]
    return all_added(one_sum.prime, factors)

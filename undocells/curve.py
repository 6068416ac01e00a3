"""How many moves each room costs."""

from undocells.search import fewest_moves, price_of


def price_curve(bare):
    """(room, fewest moves of a kept row) for each room from the price to the number of places."""
    price = price_of(bare)
    return tuple([(room, len(fewest_moves(bare, room))) for room in range(price, len(bare) + 1)])

"""The row within a sum, and sums taken apart into ways and circles."""

from undocells.bares import is_place
from undocells.closed import is_standing
from undocells.errors import BadPart, BadSum
from undocells.factors import added, is_factor, is_less, opposite
from undocells.sums import lines_along, made_sum, sum_fault, turned_over, with_place


class Part:
    """A factor and moves from a product on, which lead in a circle or to an end line."""

    def __init__(self, factor, base, moves):
        self.factor = factor
        self.base = base
        self.moves = moves

    @property
    def finish(self):
        """The product behind the moves."""
        product = tuple(self.base)
        for place in self.moves:
            product = turned_over(product, place)
        return product

    def __eq__(self, other):
        return (isinstance(other, Part) and self.factor == other.factor and self.base == other.base
                and self.moves == other.moves)


def check_sum(bare, one_sum):
    """Raise the error of a sum that is not right."""
    word = sum_fault(bare, one_sum)
    if word is not None:
        raise BadSum(word)


def row_of_sum(bare, one_sum):
    """The row along lines of the sum that has the fewest moves, and of several the first."""
    check_sum(bare, one_sum)
    roads = roads_of(one_sum.lines)
    distances = distances_along(roads, [product for product, _ in one_sum.ends])
    row, standing = [], ()
    while distances[standing] > 0:
        nearer = [road for road in roads[standing] if distances[road[1]] < distances[standing]]
        place, standing = min(nearer)
        row.append(place)
    return tuple(row)


def roads_of(lines):
    """For each product of a line the couples (place, product) to which lines lead from it."""
    roads = {}
    for product, place, _ in lines:
        other = with_place(product, place)
        roads.setdefault(product, []).append((place, other))
        roads.setdefault(other, []).append((place, product))
    return roads


def distances_along(roads, goals):
    """For each product with a road to one of the goals the fewest moves."""
    distances = {goal: 0 for goal in goals}
    waiting = list(distances)
    # the list grows while it is gone through, so it is walked by index
    at = 0
    while at < len(waiting):
        for _, other in roads.get(waiting[at], ()):
            if other not in distances:
                distances[other] = distances[waiting[at]] + 1
                waiting.append(other)
        at += 1
    return distances


def can_be_done(bare, base, moves):
    """Whether the moves are places, each turned over while its befores are filled."""
    standing = base
    for place in moves:
        if not is_place(bare, place) or not all([before in standing for before in bare.befores[place]]):
            return False
        standing = turned_over(standing, place)
    return True


def part_fault(bare, part):
    """None, or the first word of what is wrong with a part."""
    if not is_factor(0, part.factor) or part.factor[0] <= 0:
        return "factor"
    if not is_standing(bare, part.base):
        return "base"
    if not isinstance(part.moves, tuple) or part.moves == () or not can_be_done(bare, part.base, part.moves):
        return "moves"
    finish = part.finish
    if finish == part.base:
        return None
    if part.base != () and bare.end not in part.base:
        return "base"
    return None if bare.end in finish else "finish"


def put_together(bare, parts):
    """The sum of all lines and end lines of the parts."""
    for index, part in enumerate(parts):
        word = part_fault(bare, part)
        if word is not None:
            raise BadPart(index, word)
    lines, ends = [], []
    for part in parts:
        couples, finish = lines_along(part.base, part.moves, part.factor, 0)
        lines.extend(couples)
        if finish != part.base:
            ends.append((finish, part.factor))
            if part.base != ():
                ends.append((part.base, opposite(0, part.factor)))
    return made_sum(0, lines, ends)


def taken_apart(bare, one_sum):
    """Parts that put together are the sum of fractions again."""
    check_sum(bare, one_sum)
    if one_sum.prime != 0:
        raise BadSum("prime")
    flow = Flow(one_sum)
    parts = []
    for source in list(flow.supplies):
        while source in flow.supplies:
            parts.extend(parts_from(flow, source))
    # what is left flows in circles
    for product in list(flow.arrows):
        while flow.arrows[product]:
            parts.extend(parts_from(flow, product))
    return tuple(parts)


class Flow:
    """What still flows: along arrows, from products with a supply to products with a demand."""

    def __init__(self, one_sum):
        self.supplies = {(): (1, 1)}
        self.demands = {}
        # for each product the places that are turned over from it, and how much flows there
        self.arrows = {}
        for product, factor in one_sum.ends:
            if factor[0] > 0:
                self.demands[product] = factor
            else:
                self.supplies[product] = opposite(0, factor)
        for product, place, factor in one_sum.lines:
            fills = factor[0] > 0
            amounts = self.arrows.setdefault(product if fills else with_place(product, place), {})
            amounts[place] = factor if fills else opposite(0, factor)

    def take(self, moves, factor):
        """Take a flow off the arrows of moves (product, place)."""
        for product, place in moves:
            take_off(self.arrows[product], place, factor)


def take_off(amounts, key, factor):
    """Lessen an amount; one that comes to nought goes."""
    rest = added(0, amounts[key], opposite(0, factor))
    if rest[0] == 0:
        del amounts[key]
    else:
        amounts[key] = rest


def least_of(factors):
    """The least of some fractions."""
    least = factors[0]
    for factor in factors:
        if is_less(factor, least):
            least = factor
    return least


def parts_from(flow, start):
    """The circles that a walk from a product meets, and the way on which it comes to a demand, if it does."""
    parts, moves, standing, met = [], [], start, {start: 0}
    while standing not in flow.demands and flow.arrows.get(standing, {}):
        place = min(list(flow.arrows[standing]))
        moves.append((standing, place))
        standing = turned_over(standing, place)
        if standing in met:
            at = met[standing]
            parts.append(circle_of(flow, moves[at:]))
            for product, _ in moves[at + 1:]:
                del met[product]
            moves = moves[:at]
        else:
            met[standing] = len(moves)
    if standing in flow.demands:
        parts.append(way_of(flow, moves, start, standing))
    return parts


def circle_of(flow, moves):
    """The part of a circle, taken off the flow."""
    factor = least_of([flow.arrows[product][place] for product, place in moves])
    flow.take(moves, factor)
    return Part(factor, moves[0][0], tuple([place for _, place in moves]))


def way_of(flow, moves, start, finish):
    """The part of a way, taken off the flow with its supply and its demand."""
    amounts = [flow.arrows[product][place] for product, place in moves]
    factor = least_of(amounts + [flow.supplies[start], flow.demands[finish]])
    flow.take(moves, factor)
    take_off(flow.supplies, start, factor)
    take_off(flow.demands, finish, factor)
    return Part(factor, start, tuple([place for _, place in moves]))

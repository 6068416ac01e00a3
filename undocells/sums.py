"""Sums of lines and end lines, which come to one, and the sums of rows."""

from undocells.bares import is_place
from undocells.basics import is_sequence
from undocells.closed import is_standing
from undocells.errors import BadFactor, NotShown
from undocells.factors import added, all_added, check_prime, is_factor, is_prime, opposite, whole_factor
from undocells.moves import row_fault


class Sum:
    """Lines and end lines over a prime."""

    def __init__(self, prime, lines, ends):
        self.prime = prime
        self.lines = lines
        self.ends = ends

    def __eq__(self, other):
        return (isinstance(other, Sum) and self.prime == other.prime and self.lines == other.lines
                and self.ends == other.ends)


def with_place(product, place):
    """The product with a place, which may be in it already."""
    return product if place in product else tuple(sorted((*product, place)))


def turned_over(product, place):
    """The product without the place if it is in it, else with it."""
    if place in product:
        return tuple([other for other in product if other != place])
    return with_place(product, place)


def come_together(prime, couples):
    """For each key of the couples (key, factor), ascending, the sum of its factors, unless that is nought."""
    totals = {}
    for key, factor in couples:
        totals[key] = added(prime, totals[key], factor) if key in totals else factor
    nought = whole_factor(prime, 0)
    return sorted([(key, factor) for key, factor in totals.items() if factor != nought])


def multiplied_out(one_sum):
    """The products and factors to which all lines come together."""
    couples = []
    for product, place, factor in one_sum.lines:
        couples.append((product, factor))
        couples.append((with_place(product, place), opposite(one_sum.prime, factor)))
    couples.extend(one_sum.ends)
    return tuple(come_together(one_sum.prime, couples))


def room_of_sum(one_sum):
    """The greatest number of places in one of the products."""
    sizes = [len(with_place(product, place)) for product, place, _ in one_sum.lines]
    return max(sizes + [len(product) for product, _ in one_sum.ends], default=0)


def is_right_factor(prime, thing):
    """Whether it is a factor and not nought."""
    return is_factor(prime, thing) and thing != whole_factor(prime, 0)


def is_line(bare, prime, thing):
    """Whether it is a line with a factor that is not nought."""
    if not isinstance(thing, tuple) or len(thing) != 3:
        return False
    product, place, factor = thing
    if not is_standing(bare, product) or not is_place(bare, place) or place in product:
        return False
    return all([before in product for before in bare.befores[place]]) and is_right_factor(prime, factor)


def is_end_line(bare, prime, thing):
    """Whether it is an end line with a factor that is not nought."""
    if not isinstance(thing, tuple) or len(thing) != 2:
        return False
    product, factor = thing
    return is_standing(bare, product) and bare.end in product and is_right_factor(prime, factor)


def is_rising(keys):
    """Whether each of them is greater than the one ahead of it."""
    return all([keys[at] < keys[at + 1] for at in range(len(keys) - 1)])


def are_lines(bare, prime, lines):
    """Whether these can be the lines of a sum."""
    if not isinstance(lines, tuple) or not all([is_line(bare, prime, line) for line in lines]):
        return False
    return is_rising([line[:2] for line in lines])


def are_ends(bare, prime, ends):
    """Whether these can be the end lines of a sum."""
    if not isinstance(ends, tuple) or not all([is_end_line(bare, prime, line) for line in ends]):
        return False
    return is_rising([line[:1] for line in ends])


def sum_fault(bare, one_sum):
    """None, or the first word of what is wrong with a sum."""
    prime = one_sum.prime
    if not is_prime(prime):
        return "prime"
    if not are_lines(bare, prime, one_sum.lines):
        return "lines"
    if not are_ends(bare, prime, one_sum.ends):
        return "ends"
    return None if multiplied_out(one_sum) == (((), whole_factor(prime, 1)),) else "one"


def lines_along(base, moves, factor, prime):
    """The lines of moves from a product on, as couples ((product, place), factor), and the product behind them."""
    couples, standing = [], base
    for place in moves:
        after = turned_over(standing, place)
        if place in after:
            couples.append(((standing, place), factor))
        else:
            couples.append(((after, place), opposite(prime, factor)))
        standing = after
    return couples, standing


def made_sum(prime, lines, ends):
    """The sum of the lines ((product, place), factor) and end lines (product, factor), alike ones made one."""
    told = [(product, place, factor) for (product, place), factor in come_together(prime, lines)]
    return Sum(prime, tuple(told), tuple(come_together(prime, ends)))


def check_shown(bare, row):
    """Raise the error of a row that is not shown."""
    word = row_fault(bare, row, wanted="shown")
    if word is not None:
        raise NotShown(word)


def sum_of_row(bare, row, prime=0):
    """The sum of a shown row."""
    check_shown(bare, row)
    return sum_of_rows(check_prime(prime), [row], [whole_factor(prime, 1)])


def sum_of_rows(prime, rows, factors):
    """The sums of rows added up, each times its factor."""
    lines, ends = [], []
    for row, factor in zip(rows, factors):
        couples, last = lines_along((), row, factor, prime)
        lines.extend(couples)
        ends.append((last, factor))
    return made_sum(prime, lines, ends)


def mixed_sum(bare, prime, rows, factors):
    """The sums of shown rows added up, each times its factor."""
    check_prime(prime)
    for row in rows:
        check_shown(bare, row)
    if not is_sequence(factors) or len(factors) != len(rows):
        raise BadFactor(-1)
    for index, factor in enumerate(factors):
        if not is_factor(prime, factor):
            raise BadFactor(index)
    if all_added(prime, factors) != whole_factor(prime, 1):
        raise BadFactor(-1)
    return sum_of_rows(prime, rows, factors)

"""Tables of ends: made of programs, taken apart into rings and chains, and made into programs."""

from undocells.basics import is_sequence, is_within
from undocells.bwprogs import Program
from undocells.bwrun import run_both
from undocells.errors import BadMany, BadTable, OutOfFuel, Stuck, TooMany
from undocells.trails import word_names
from undocells.words import check_width

MOST_NAMES = 8
MOST_BITS = 8


def check_table(table, width, many):
    """The tuple of the entries of a table."""
    check_width(width)
    if not is_within(many, 0, MOST_NAMES):
        raise BadMany()
    if width * many > MOST_BITS:
        raise TooMany(MOST_BITS)
    if not is_sequence(table) or len(table) != 1 << width * many:
        raise BadTable(-1)
    come = {}
    for index, entry in enumerate(table):
        if entry is not None and (not is_within(entry, 0, len(table) - 1) or entry in come):
            raise BadTable(index)
        come[entry] = True
    return tuple(table)


def words_of_number(number, width, many):
    """The words that have a number; the first is its highest digit."""
    most = (1 << width) - 1
    return tuple([number >> width * (many - 1 - index) & most for index in range(many)])


def number_of_words(words, width):
    """The number that words have."""
    number = 0
    for word in words:
        number = number << width | word
    return number


def end_of_run(program, width, words, fuel):
    """The number of the words at the end of a run, or None if it does not come to its end."""
    try:
        return number_of_words(run_both(program, width, words, fuel), width)
    except (Stuck, OutOfFuel):
        return None


def table_of(program, width, fuel=1000):
    """The table of a program."""
    check_width(width)
    many = len(program.names)
    if width * many > MOST_BITS:
        raise TooMany(MOST_BITS)
    ends = []
    for number in range(1 << width * many):
        ends.append(end_of_run(program, width, words_of_number(number, width, many), fuel))
    return tuple(ends)


def turned_table(table):
    """The table that leads back from each end."""
    back = [None] * len(table)
    for number, end in enumerate(table):
        if end is not None:
            back[end] = number
    return tuple(back)


def followed(table, number):
    """The numbers over the ends from this one on, up to one without an end or ahead of this one again."""
    found = [number]
    while table[found[-1]] is not None and table[found[-1]] != number:
        found.append(table[found[-1]])
    return tuple(found)


def chains_of(table):
    """The chains of a table, ascending."""
    back = turned_table(table)
    return tuple([followed(table, number) for number in range(len(table)) if back[number] is None])


def rings_of(table):
    """The rings of a table, ascending."""
    met = {number: True for chain in chains_of(table) for number in chain}
    rings = []
    for number in range(len(table)):
        if number not in met:
            ring = followed(table, number)
            rings.append(ring)
            for other in ring:
                met[other] = True
    return tuple(rings)


def exchanges_of(table):
    """Exchanges, as few as there can be, that lead each number with an end to its end."""
    # a chain is closed to a ring; the first of a ring, exchanged with each other one in order, turns it
    return tuple([(ring[0], other) for ring in (*rings_of(table), *chains_of(table)) for other in ring[1:]])


def is_exchange(thing, table):
    """Whether it is an exchange of numbers of a table."""
    if not isinstance(thing, tuple) or len(thing) != 2:
        return False
    return all([is_within(number, 0, len(table) - 1) for number in thing]) and thing[0] != thing[1]


def led_by(exchanges, many):
    """For each of so many numbers where the exchanges lead it."""
    at_number = list(range(many))
    for one, other in exchanges:
        at_number[one], at_number[other] = at_number[other], at_number[one]
    ends = [0] * many
    for end, number in enumerate(at_number):
        ends[number] = end
    return ends


def exchanges_fault(table, exchanges):
    """None, or what is wrong with the exchanges of a table."""
    if not is_sequence(exchanges) or not all([is_exchange(exchange, table) for exchange in exchanges]):
        return "form"
    ends = led_by(exchanges, len(table))
    if not all([entry is None or entry == end for entry, end in zip(table, ends)]):
        return "leads"
    least = len([entry for entry in table if entry is not None]) - len(rings_of(table))
    return "many" if len(exchanges) > least else None


def number_test(number, width, many):
    """The expression that is true exactly for the words that have a number."""
    test = None
    for index, word in enumerate(words_of_number(number, width, many)):
        equal = ("op", ("==",), (("name", f"w{index}"), ("number", word)))
        test = equal if test is None else ("op", ("&",), (test, equal))
    return ("number", 1) if test is None else test


def exchange_statement(exchange, width, many):
    """The statement that does an exchange."""
    one, other = exchange
    either = ("op", ("|",), (number_test(one, width, many), number_test(other, width, many)))
    changed = words_of_number(one ^ other, width, many)
    turns = [("xor", f"w{index}", ("number", word)) for index, word in enumerate(changed) if word]
    return ("if", either, tuple(turns), (), either)


def program_of_table(width, many, table):
    """A program of one routine whose table this is."""
    entries = check_table(table, width, many)
    body = []
    for number, entry in enumerate(entries):
        if entry is None:
            body.append(("if", number_test(number, width, many), (), (), ("number", 0)))
    for exchange in exchanges_of(entries):
        body.append(exchange_statement(exchange, width, many))
    return Program([("made", word_names(many), tuple(body))])

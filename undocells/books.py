"""Books of the challenger, which tell where it goes over."""

from undocells.bares import is_place
from undocells.basics import is_sequence, is_within, mask_of, places_in
from undocells.closed import is_standing
from undocells.errors import BadRounds, Enough
from undocells.rounds import answers_of, fillable, is_ready, needed_in
from undocells.search import check_small

MOST_ROUNDS = 200


def check_rounds(rounds):
    """The number of rounds itself, if there may be so many."""
    if not is_within(rounds, 1, MOST_ROUNDS):
        raise BadRounds()
    return rounds


def left_in(rounds, filled):
    """How many rounds are left once these places are filled."""
    return rounds - 1 - len(filled)


def is_entry(bare, entry, rounds):
    """Whether it can be an entry of a book against so many rounds."""
    if not isinstance(entry, tuple) or len(entry) != 3:
        return False
    filled, asked, goes = entry
    if not is_standing(bare, filled) or not is_standing(bare, goes) or not is_place(bare, asked):
        return False
    if asked in filled or asked in goes or any([place in filled for place in goes]):
        return False
    return left_in(rounds, filled) >= 1


def states_behind(bare, entry):
    """The states to which fillings lead from an entry, answered as it says: asked, and filled as binary ones."""
    filled, asked, goes = entry
    standing = mask_of(filled)
    states = []
    for place in fillable(bare, asked, standing):
        stayed, gone = answers_of(asked, standing, place)
        states.append(gone if place in goes else stayed)
    return states


def is_won(bare, state):
    """Whether a state is settled."""
    asked, filled = state
    return is_ready(bare, asked, filled)


def meets_settled(bare, book, rounds):
    """Whether the asker comes to a settled state in time."""
    if rounds == 1 and is_ready(bare, bare.end, 0):
        return True
    for entry in book:
        if is_ready(bare, entry[1], mask_of(entry[0])):
            return True
        if left_in(rounds, entry[0]) == 1 and any([is_won(bare, state) for state in states_behind(bare, entry)]):
            return True
    return False


def meets_missing(bare, book, rounds):
    """Whether a filling leads to a state with rounds left of which the book tells nothing."""
    told = {(entry[1], mask_of(entry[0])): True for entry in book}
    for entry in book:
        if left_in(rounds, entry[0]) > 1 and not all([state in told for state in states_behind(bare, entry)]):
            return True
    return False


def book_fault(bare, book, rounds):
    """None, or the first word of what is wrong with a book against so many rounds."""
    if not is_sequence(book) or not all([is_entry(bare, entry, rounds) for entry in book]):
        return "entry"
    if not all([book[at][:2] < book[at + 1][:2] for at in range(len(book) - 1)]):
        return "order"
    if rounds > 1 and not any([entry[:2] == ((), bare.end) for entry in book]):
        return "first"
    if meets_settled(bare, book, rounds):
        return "settled"
    return "missing" if meets_missing(bare, book, rounds) else None


def book_against(bare, rounds):
    """The book that beats every asker in so many rounds."""
    check_rounds(rounds)
    check_small(bare)
    known = {}
    needed = 1 + needed_in(bare, bare.end, 0, known)
    if needed <= rounds:
        raise Enough(needed)
    entries, waiting = {}, [(bare.end, 0)]
    while waiting:
        state = waiting.pop()
        if state not in entries and left_in(rounds, places_in(state[1])) >= 1:
            entries[state] = made_entry(bare, state, rounds, known)
            waiting.extend(states_behind(bare, entries[state]))
    return tuple(sorted(list(entries.values())))


def made_entry(bare, state, rounds, known):
    """The entry of a state: the challenger stays wherever more rounds are needed then than are left."""
    asked, standing = state
    filled = places_in(standing)
    left = left_in(rounds, filled) - 1
    goes = [place for place in fillable(bare, asked, standing)
            if needed_in(bare, asked, standing | 1 << place, known) <= left]
    return (filled, asked, tuple(goes))


def goes_over(book, filled, asked, place):
    """Whether the challenger goes over at this place in a state."""
    places = tuple(filled)
    for entry in book:
        if entry[0] == places and entry[1] == asked:
            return place in entry[2]
    return False

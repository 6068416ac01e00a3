"""Plans and books led from each of the two games to the other."""

from undocells.bares import reached_along, unders_of
from undocells.basics import mask_of, places_in
from undocells.books import book_fault, check_rounds, left_in
from undocells.errors import BadBook, BadNaming, BadPlan
from undocells.hues import first_hues, is_painted_over, painted, unpainted
from undocells.namings import naming_fault
from undocells.painters import book_of, count_painted, hues_of, painter_fault
from undocells.plans import plan_fault
from undocells.rounds import answers_of, fillable, is_ready
from undocells.search import check_small


def naming_from_asking(bare, plan):
    """A naming plan made of a plan for the end."""
    check_small(bare)
    word = plan_fault(bare, plan)
    if word is not None:
        raise BadPlan(word)
    return naming_led(bare, plan, bare.end, first_hues(bare), unders_of(bare))


def naming_led(bare, plan, asked, hues, unders):
    """The naming plan for a painting made of a plan for a state; unders has the places under each one."""
    # the painting may be over while the asked place is not yet settled: an elder red place then stands on blue ones
    if is_painted_over(bare, hues):
        return ()
    place, stayed, gone = plan
    if not unders[asked] >> place & 1:
        return naming_led(bare, stayed, asked, hues, unders)
    red = naming_led(bare, gone, place, painted(hues, place, True), unders)
    return (place, red, naming_led(bare, stayed, asked, painted(hues, place, False), unders))


def asking_from_naming(bare, plan):
    """A plan for the end made of a naming plan for the first painting."""
    word = naming_fault(bare, plan)
    if word is not None:
        raise BadNaming(word)
    return asking_led(bare, plan, (bare.end, 0), 0)


def is_live(bare, state, place):
    """Whether filling a place that is not asked bears on the asked one."""
    asked, filled = state
    return reached_along(bare.befores, asked, filled) >> place & 1 == 1


def counts_red(bare, asked, blues, place):
    """Whether a place that is not live counts as red: a road past the blue places leads to it from the asked one."""
    return reached_along(bare.afters, asked, blues) >> place & 1 == 1


def asking_led(bare, plan, state, blues):
    """The plan for a state made of a naming plan; blues are the places that count as blue, as binary ones."""
    asked, filled = state
    if is_ready(bare, asked, filled):
        return ()
    place, red, blue = plan
    if is_live(bare, state, place):
        stayed, gone = answers_of(asked, filled, place)
        return (place, asking_led(bare, blue, stayed, blues | 1 << place), asking_led(bare, red, gone, blues))
    if counts_red(bare, asked, blues, place):
        return asking_led(bare, red, state, blues)
    return asking_led(bare, blue, state, blues | 1 << place)


def painter_from_challenger(bare, book, rounds):
    """A painter's book made of a book of the challenger."""
    check_small(bare)
    check_rounds(rounds)
    word = book_fault(bare, book, rounds)
    if word is not None:
        raise BadBook(word)
    goes = {(asked, mask_of(filled)): listed for filled, asked, listed in book}
    first = first_hues(bare)
    # several games may lead to one painting: any of them tells how to go on, so the first one found is kept
    states, told, waiting = {first: (bare.end, 0)}, {}, [first]
    while waiting:
        hues = waiting.pop()
        if count_painted(hues) < rounds:
            answers = {place: painter_answer(bare, hues, states[hues], goes, place)
                       for place in unpainted(bare, hues)}
            told[hues] = tuple([place for place, (other, _) in answers.items() if other[0] >> place & 1])
            waiting.extend(taken_up(states, list(answers.values())))
    return book_of(told)


def taken_up(met, couples):
    """Keep those of the couples whose first part is not yet met, and tell these first parts."""
    fresh = [(one, other) for one, other in couples if one not in met]
    for one, other in fresh:
        met[one] = other
    return [one for one, _ in fresh]


def painter_answer(bare, hues, state, goes, place):
    """The painting and the state behind naming a place, as the challenger answers."""
    asked, filled = state
    if is_live(bare, state, place):
        is_red = place in goes[state]
        stayed, gone = answers_of(asked, filled, place)
        return painted(hues, place, is_red), gone if is_red else stayed
    return painted(hues, place, counts_red(bare, asked, hues[1], place)), state


def challenger_from_painter(bare, book, names):
    """A book of the challenger made of a painter's book."""
    word = painter_fault(bare, book, names)
    if word is not None:
        raise BadBook(word)
    reddened = {hues_of(entry): entry[2] for entry in book}
    unders = unders_of(bare)
    first = (bare.end, 0)
    # several paintings may lead to one state: any of them tells how to go on, so the first one found is kept
    paintings, entries, waiting = {first: first_hues(bare)}, [], [first]
    while waiting:
        state = waiting.pop()
        asked, filled = state
        if left_in(names, places_in(filled)) >= 1:
            hues = paintings[state]
            answers = {place: challenger_answer(state, hues, reddened[hues], unders, place)
                       for place in fillable(bare, asked, filled)}
            goes = [place for place, (behind, _) in answers.items() if behind[0] == place]
            entries.append((places_in(filled), asked, tuple(goes)))
            waiting.extend(taken_up(paintings, list(answers.values())))
    return tuple(sorted(entries))


def challenger_answer(state, hues, reddened, unders, place):
    """The state and the painting behind filling a place, as the painter answers."""
    asked, filled = state
    stayed, gone = answers_of(asked, filled, place)
    if not unders[asked] >> place & 1:
        return stayed, hues
    is_red = place in reddened
    return gone if is_red else stayed, painted(hues, place, is_red)

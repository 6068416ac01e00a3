"""[6.1] to [6.3]: how many rounds the game needs."""

from functools import lru_cache

from helpers import NO_NUMBERS, NO_SEQUENCES, Checks, binary_tree, chain, every_standing, large_bares, some_bares
from undocells.bares import Bare, places_under
from undocells.errors import BadPlaces, NoPlace, TooMany
from undocells.rounds import is_settled, needed_table, rounds_of, still_needed
from undocells.search import price_of

DIAMOND = Bare([[], [0], [0], [1, 2]], 3)
NO_PLACES = tuple(thing for thing in NO_NUMBERS if thing is not None)


def needed_by(bare):
    """A function that tells the rounds still needed in a state, by the words of the document."""
    @lru_cache(maxsize=None)
    def needed(asked, filled):
        if set(bare.befores[asked]) <= filled:
            return 0
        others = [place for place in range(len(bare)) if place != asked and place not in filled]
        return 1 + min(max(needed(asked, filled | {place}), needed(place, filled | {asked})) for place in others)
    return needed


def states_of(bare):
    """All states, as an asked place and the others that are filled."""
    for asked in range(len(bare)):
        for filled in every_standing(len(bare)):
            if asked not in filled:
                yield asked, filled


def cells_beside(bare, asked, filled):
    """The least number of cells beside the filled places with which a row leads to the asked one, too."""
    goal = frozenset(filled) | {asked}
    for room in range(1, len(bare) + 1):
        seen, waiting = {frozenset(filled)}, [frozenset(filled)]
        for standing in waiting:
            for place in range(len(bare)):
                after = standing ^ {place}
                if (place not in filled and set(bare.befores[place]) <= standing
                        and len(after) - len(filled) <= room and after not in seen):
                    seen.add(after)
                    waiting.append(after)
        if goal in seen:
            return room
    return None


class Settled(Checks):

    def test_settled_states(self):
        self.assertIs(is_settled(DIAMOND, 3, (1, 2)), True)
        self.assertIs(is_settled(DIAMOND, 3, [2]), False)
        self.assertIs(is_settled(DIAMOND, 0, ()), True)
        self.assertIs(is_settled(DIAMOND, None, [2, 0, 1]), True)
        self.assertIs(is_settled(DIAMOND, None, ()), False)

    def test_the_asked_place_among_the_filled_is_left_out(self):
        self.assertIs(is_settled(DIAMOND, 3, [3, 1, 2]), True)
        self.assertIs(is_settled(DIAMOND, 3, [3, 1]), False)
        self.same(still_needed(DIAMOND, 3, [3]), still_needed(DIAMOND, 3, []))

    def test_all_states_of_small_webs(self):
        for bare in some_bares(4, 2):
            for asked, filled in states_of(bare):
                self.assertIs(is_settled(bare, asked, filled), set(bare.befores[asked]) <= set(filled))

    def test_errors(self):
        for call in (is_settled, still_needed):
            for thing in (9, -1, *NO_PLACES):
                self.fails(NoPlace(thing), call, chain(9), thing, None)
            for thing in NO_SEQUENCES:
                self.fails(BadPlaces(-1), call, chain(9), 2, thing)
            self.fails(BadPlaces(1), call, chain(9), None, [0, 9])
            self.fails(BadPlaces(2), call, chain(9), 2, (0, 1, 0))
            self.fails(BadPlaces(0), call, chain(9), 2, [True])
            self.fails(BadPlaces(1), call, chain(9), 2, [2, 2])

    def test_being_settled_is_told_of_any_web(self):
        self.assertIs(is_settled(chain(200), 199, (198,)), True)


class Needed(Checks):

    def test_a_few(self):
        self.same(still_needed(chain(1)), 0)
        self.same(still_needed(chain(2)), 1)
        self.same([still_needed(chain(n)) for n in range(1, 9)], [0, 1, 2, 2, 3, 3, 3, 3])
        self.same(still_needed(DIAMOND), 3)
        self.same(still_needed(DIAMOND, 3, (0,)), 2)
        self.same(still_needed(DIAMOND, None, [2, 1]), 0)
        self.same(still_needed(DIAMOND, asked=1, filled=(2,)), 1)
        self.same([rounds_of(chain(n)) for n in range(1, 9)], [1, 2, 3, 3, 4, 4, 4, 4])

    def test_all_states_by_the_words_of_the_document(self):
        for bare in list(some_bares(4, 1)) + list(some_bares(5, 13)):
            needed = needed_by(bare)
            for asked, filled in states_of(bare):
                self.same(still_needed(bare, asked, filled[::-1]), needed(asked, frozenset(filled)))

    def test_the_rounds_are_the_price(self):
        for bare in list(some_bares(5, 1)) + list(large_bares(40)):
            self.same(rounds_of(bare), price_of(bare))
            self.same(rounds_of(bare), 1 + still_needed(bare))
        self.same(rounds_of(binary_tree(2)), 5)

    def test_places_that_are_not_under_the_asked_one_change_nothing(self):
        for bare in some_bares(4, 1):
            for asked, filled in states_of(bare):
                under = places_under(bare, asked)
                fewer = tuple(place for place in filled if place in under)
                self.same(still_needed(bare, asked, filled), still_needed(bare, asked, fewer))

    def test_one_more_is_the_least_number_of_cells_beside_the_filled_places(self):
        for bare in some_bares(4, 3):
            for asked, filled in states_of(bare):
                self.same(1 + still_needed(bare, asked, filled), cells_beside(bare, asked, filled))

    def test_8_and_9_places(self):
        self.same(still_needed(chain(8), 3, (7, 1)), 1)
        for call in (still_needed, rounds_of, needed_table):
            self.fails(TooMany(8), call, chain(9))
        self.fails(TooMany(8), still_needed, chain(9), 0, ())


class Tables(Checks):

    def test_a_small_table(self):
        self.same(needed_table(chain(1)), (((), 0, 0),))
        self.same(needed_table(chain(2)), (((), 0, 0), ((), 1, 1), ((0,), 1, 0), ((1,), 0, 0)))

    def test_all_states_ascending(self):
        for bare in list(some_bares(4, 1)) + list(some_bares(5, 31)) + list(large_bares(2)):
            needed = needed_by(bare)
            want = sorted((filled, asked, needed(asked, frozenset(filled))) for asked, filled in states_of(bare))
            self.same(needed_table(bare), tuple(want))
            self.same(len(want), len(bare) << len(bare) - 1)

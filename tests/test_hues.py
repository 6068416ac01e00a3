"""[7.1] and [7.2]: paintings and the names that are needed."""

from functools import lru_cache

from helpers import NO_NUMBERS, NO_SEQUENCES, Checks, binary_tree, chain, every_standing, large_bares, some_bares
from test_rounds import states_of
from undocells.bares import Bare
from undocells.errors import BadPainting, TooMany
from undocells.hues import check_painting, names_left, names_of
from undocells.rounds import rounds_of, still_needed
from undocells.search import price_of

DIAMOND = Bare([[], [0], [0], [1, 2]], 3)


def is_over(bare, reds, blues):
    return any(set(bare.befores[place]) <= set(blues) for place in reds)


def paintings_of(bare):
    """All paintings: ascending tuples of red and of blue places."""
    for reds in every_standing(len(bare)):
        for blues in every_standing(len(bare)):
            if reds and not set(reds) & set(blues):
                yield reds, blues


def names_by(bare):
    """A function that tells the names still needed at a painting, by the words of the document."""
    @lru_cache(maxsize=None)
    def needed(reds, blues):
        if is_over(bare, reds, blues):
            return 0
        places = [place for place in range(len(bare)) if place not in reds | blues]
        return 1 + min(max(needed(reds | {p}, blues), needed(reds, blues | {p})) for p in places)
    return lambda reds, blues: needed(frozenset(reds), frozenset(blues))


class Paintings(Checks):

    def test_right_ones(self):
        self.same(check_painting(DIAMOND, ((3,), ())), ((3,), ()))
        self.same(check_painting(DIAMOND, [[3, 0], (2, 1)]), ((0, 3), (1, 2)))
        self.same(check_painting(chain(1), ([0], [])), ((0,), ()))
        self.same(check_painting(DIAMOND, ((3, 2, 1, 0), ())), ((0, 1, 2, 3), ()))

    def test_painting(self):
        for thing in (*NO_SEQUENCES, (), ((3,),), ((3,), (), ()), [[3]]):
            self.fails(BadPainting("painting"), check_painting, DIAMOND, thing)

    def test_reds(self):
        for thing in (*NO_SEQUENCES, (), [], (4,), (-1,), (0, 0), (0, 1, 0), *[(thing,) for thing in NO_NUMBERS]):
            self.fails(BadPainting("reds"), check_painting, DIAMOND, (thing, (2,)))
            self.fails(BadPainting("reds"), check_painting, DIAMOND, (thing, None))

    def test_blues(self):
        for thing in (*NO_SEQUENCES, (4,), (-1,), (0, 0), (3, 3), *[(thing,) for thing in NO_NUMBERS]):
            self.fails(BadPainting("blues"), check_painting, DIAMOND, ((3,), thing))

    def test_both(self):
        self.fails(BadPainting("both"), check_painting, DIAMOND, ((3,), (3,)))
        self.fails(BadPainting("both"), check_painting, DIAMOND, ((3, 0), (1, 2, 0)))

    def test_names_left_raises_alike(self):
        for painting, word in ((None, "painting"), (((), None), "reds"), (((0,), (9,)), "blues"), (((0,), (0,)), "both")):
            self.fails(BadPainting(word), names_left, DIAMOND, painting)

    def test_8_and_9_places(self):
        for thing in (None, ((8,), ()), ((0, 0), 3)):
            self.fails(TooMany(8), check_painting, chain(9), thing)
            self.fails(TooMany(8), names_left, chain(9), thing)
        self.fails(TooMany(8), names_of, chain(9))
        self.same(check_painting(chain(8), ((7,), (0,))), ((7,), (0,)))


class Needed(Checks):

    def test_a_few(self):
        self.same(names_left(chain(1), ((0,), ())), 0)
        self.same(names_left(chain(2), ((1,), ())), 1)
        self.same(names_left(chain(2), ((1,), (0,))), 0)
        self.same(names_left(chain(2), ((1, 0), ())), 0)
        self.same(names_left(DIAMOND, [[3], []]), 3)
        self.same([names_of(chain(n)) for n in range(1, 9)], [1, 2, 3, 3, 4, 4, 4, 4])

    def test_a_painting_with_all_places_painted_is_over(self):
        for bare in some_bares(4, 3):
            for reds, blues in paintings_of(bare):
                if len(reds) + len(blues) == len(bare):
                    self.same(names_left(bare, (reds, blues)), 0)

    def test_all_paintings_by_the_words_of_the_document(self):
        for bare in list(some_bares(4, 1)) + list(some_bares(5, 97)):
            needed = names_by(bare)
            for reds, blues in paintings_of(bare):
                self.same(names_left(bare, (reds[::-1], list(blues))), needed(reds, blues))

    def test_names_rounds_and_price_are_one_number(self):
        for bare in list(some_bares(5, 1)) + list(large_bares(12)):
            self.same(names_of(bare), rounds_of(bare))
            self.same(names_of(bare), price_of(bare))
            self.same(names_of(bare), 1 + names_left(bare, ((bare.end,), ())))
        self.same(names_of(binary_tree(2)), 5)

    def test_names_at_one_red_place_are_the_rounds_of_its_state(self):
        for bare in list(some_bares(4, 1)) + list(some_bares(5, 41)):
            for asked, filled in states_of(bare):
                self.same(names_left(bare, ((asked,), filled)), still_needed(bare, asked, filled))

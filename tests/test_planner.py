"""[8.9] to [8.11]: plans and rows of great webs."""

from functools import lru_cache

from helpers import NO_NUMBERS, NO_SEQUENCES, Checks, Rule, binary_tree, chain, large_bares, mixed, some_bares
from test_plans import length_of
from test_rounds import states_of
from trees import great_trees, made_tree, star
from undocells.bares import Bare
from undocells.chains import chain_price
from undocells.errors import BadPlaces, BadRoom, Fewer, NoPlace, TooMany
from undocells.moves import room_of, row_fault
from undocells.planner import chosen_row, great_cells, great_plan, great_row, piece_of
from undocells.plans import lean_plan, plan_fault, plan_to_row
from undocells.search import fewest_moves, price_of

DIAMOND = Bare([[], [0], [0], [1, 2]], 3)


def piece_told(bare, asked, filled):
    """The piece of the document: places with a road on which no place is filled, found by going down from the asked."""
    piece, waiting = {asked}, [asked]
    while waiting:
        for place in bare.befores[waiting.pop()]:
            if place not in piece and place not in filled:
                piece.add(place)
                waiting.append(place)
    return piece


def first_told(bare, asked, filled):
    """The first place of a state that is not settled."""
    triples = []
    for place in piece_told(bare, asked, filled) - {asked}:
        gone = len(piece_told(bare, place, filled))
        stayed = len(piece_told(bare, asked, filled | {place}))
        triples.append((max(stayed, gone), gone, place))
    return min(triples)[2]


def teller(bare):
    """Functions that tell the plan and the row of the document, each state being worked out once."""
    @lru_cache(maxsize=None)
    def plan(asked, filled):
        if len(piece_told(bare, asked, filled)) == 1:
            return ()
        place = first_told(bare, asked, filled)
        return (place, plan(asked, filled | {place}), plan(place, filled | {asked}))

    @lru_cache(maxsize=None)
    def row(asked, filled, room):
        piece = piece_told(bare, asked, filled)
        if len(piece) <= room:
            order = [place for place in bare.ordered if place in piece and place != asked]
            return tuple(order + [asked] + order[::-1])
        place = first_told(bare, asked, filled)
        there = row(place, filled, room)
        return there + row(asked, filled | {place}, room - 1) + row(place, filled | {asked}, room - 1)[::-1]

    return plan, row


def made_bare(many, seed, few=3):
    """A web of so many places by a rule, each place with few befores."""
    rule = Rule(seed)
    befores = [sorted({rule.below(place) for _ in range(rule.below(few))}) if place else [] for place in range(many)]
    for place in range(many - 1):
        if not any(place in listed for listed in befores):
            befores[place + 1 + rule.below(many - 1 - place)].append(place)
    return mixed(Bare(befores, many - 1), seed)


def pyramid(rows):
    """Rows of places, each over two of the row below it."""
    befores, below = [], []
    for size in range(rows, 0, -1):
        start = len(befores)
        befores += [[below[k], below[k + 1]] if below else [] for k in range(size)]
        below = list(range(start, start + size))
    return Bare(befores, len(befores) - 1)


def leafed(bare, many):
    """The web with more places without befores put to the end."""
    befores = [list(listed) for listed in bare.befores] + [[] for _ in range(many)]
    befores[bare.end] += range(len(bare), len(befores))
    return Bare(befores, bare.end)


def webs():
    return (list(some_bares(5, 3)) + list(large_bares(12, (6, 8, 9, 12, 15, 18))) + [pyramid(3), pyramid(5), chain(40)]
            + [made_bare(10 + seed % 9, seed, 2 + seed % 3) for seed in range(40)] + [made_tree(25, seed) for seed in range(5)])


class Pieces(Checks):

    def test_a_few(self):
        self.same(piece_of(DIAMOND, 3, ()), (0, 1, 2, 3))
        self.same(piece_of(DIAMOND, 3, [1]), (0, 2, 3))
        self.same(piece_of(DIAMOND, 3, (2, 1)), (3,))
        self.same(piece_of(DIAMOND, 3, [0]), (1, 2, 3))
        self.same(piece_of(DIAMOND, 1, [3, 2]), (0, 1))
        self.same(piece_of(chain(200), 199, ()), tuple(range(200)))

    def test_asked_is_left_out_of_the_filled(self):
        self.same(piece_of(DIAMOND, 3, [3, 1]), (0, 2, 3))
        self.same(piece_of(DIAMOND, 0, [0]), (0,))

    def test_all_states_of_small_webs(self):
        for bare in list(some_bares(4, 1)) + list(some_bares(5, 17)):
            for asked, filled in states_of(bare):
                piece = piece_of(bare, asked, filled[::-1])
                self.same(piece, tuple(sorted(piece_told(bare, asked, set(filled)))))
                self.same(piece == (asked,), set(bare.befores[asked]) <= set(filled))

    def test_errors(self):
        for thing in (4, -1, *NO_NUMBERS):
            self.fails(NoPlace(thing), piece_of, DIAMOND, thing, None)
        for thing in NO_SEQUENCES:
            self.fails(BadPlaces(-1), piece_of, DIAMOND, 3, thing)
        self.fails(BadPlaces(1), piece_of, DIAMOND, 3, [0, 4])
        self.fails(BadPlaces(2), piece_of, DIAMOND, 3, [3, 1, 3])
        self.fails(BadPlaces(0), piece_of, DIAMOND, 3, (True,))


class Plans(Checks):

    def test_a_few(self):
        self.same(great_plan(chain(1)), ())
        self.same(great_plan(chain(2)), (0, (), ()))
        self.same(great_plan(chain(3)), (0, (1, (), ()), ()))
        self.same(great_plan(chain(4)), (1, (2, (), ()), (0, (), ())))
        self.same([great_cells(chain(n)) for n in (1, 2, 3, 4)], [1, 2, 3, 3])

    def test_by_the_words_of_the_document(self):
        for bare in webs():
            plan, _ = teller(bare)
            made = great_plan(bare)
            self.same(made, plan(bare.end, frozenset()))
            self.assertIsNone(plan_fault(bare, made))
            self.same(lean_plan(bare, made), made)
            self.same(great_cells(bare), 1 + length_of(made))

    def test_the_cells_are_at_least_the_price_and_just_it_for_chains(self):
        for bare in list(some_bares(5, 3)) + list(large_bares(20)):
            self.assertGreaterEqual(great_cells(bare), price_of(bare))
        for length in range(1, 201):
            self.same(great_cells(chain(length)), chain_price(length))

    def test_no_web_of_18_places_is_refused(self):
        for seed in range(60):
            bare = made_bare(18, seed, 2 + seed % 6)
            self.assertLessEqual(len(plan_to_row(bare, great_plan(bare))), 3 ** 9)
        self.assertGreater(great_cells(Bare([list(range(place)) for place in range(18)], 17)), 9)

    def test_great_trees(self):
        for bare in great_trees():
            self.same(great_cells(bare), 1 + length_of(great_plan(bare)))
        self.same(great_cells(star(200)), 200)

    def test_rows_of_20000_moves_and_more(self):
        refused = 0
        for bare in [pyramid(rows) for rows in range(6, 20)] + [made_bare(60 + seed, seed, 3) for seed in range(0, 100, 9)]:
            plan, _ = teller(bare)
            moves = self.count_moves(bare)
            if moves > 20000:
                refused += 1
                self.fails(TooMany(20000), great_plan, bare)
                self.fails(TooMany(20000), great_cells, bare)
                self.fails(TooMany(20000), great_row, bare)
                self.fails(TooMany(20000), great_row, bare, None)
            else:
                self.same(great_plan(bare), plan(bare.end, frozenset()))
                self.same(len(plan_to_row(bare, great_plan(bare))), moves)
        self.assertGreater(refused, 3)

    def count_moves(self, bare):
        """How many moves the row of the great plan has, as far as 20000 and more."""
        def count(asked, filled, left):
            if len(piece_told(bare, asked, filled)) == 1 or left <= 0:
                return 1
            place = first_told(bare, asked, filled)
            gone = count(place, filled | {asked}, left // 2)
            stayed = count(asked, filled | {place}, left - 2 * gone)
            return stayed + 2 * gone
        return count(bare.end, frozenset(), 20000)

    def test_rows_of_just_19999_and_20001_moves(self):
        right, long = leafed(made_bare(162, 31, 3), 4), leafed(made_bare(162, 31, 3), 5)
        self.same(len(plan_to_row(right, great_plan(right))), 19999)
        self.assertIsNone(row_fault(right, great_row(right), great_cells(right)))
        self.assertGreater(self.count_moves(long), 20000)
        for call in (great_plan, great_cells, great_row):
            self.fails(TooMany(20000), call, long)


class Rows(Checks):

    def test_a_few(self):
        self.same(great_row(chain(1)), (0,))
        self.same(great_row(chain(3), 3), (0, 1, 2, 1, 0))
        self.same(great_row(chain(4)), (0, 1, 0, 2, 3, 2, 0, 1, 0))
        self.same(great_row(chain(4), 4), (0, 1, 2, 3, 2, 1, 0))
        self.same(great_row(DIAMOND, room=200), (0, 1, 2, 3, 2, 1, 0))

    def test_by_the_words_of_the_document_at_each_room(self):
        for bare in webs():
            _, row = teller(bare)
            cells = great_cells(bare)
            self.same(great_row(bare), great_row(bare, cells))
            most = None
            for room in range(cells, len(bare) + 2):
                made = great_row(bare, room)
                self.same(made, row(bare.end, frozenset(), room))
                self.assertIsNone(row_fault(bare, made, room))
                self.assertTrue(most is None or len(made) <= most)
                most = len(made)
            self.same(most, 2 * len(bare) - 1)
            for room in range(max(1, cells - 2), cells):
                self.fails(Fewer(room), great_row, bare, room)

    def test_less_room_than_the_cells(self):
        for room in range(1, 9):
            self.fails(Fewer(room), great_row, chain(200), room)
        self.same(room_of(chain(200), great_row(chain(200), 9)), 9)
        self.fails(Fewer(199), great_row, star(200), 199)
        self.same(len(great_row(star(200), 200)), 399)

    def test_great_webs_with_much_room(self):
        for bare in (pyramid(19), made_bare(200, 3, 3), made_bare(200, 5, 4)):
            self.fails(TooMany(20000), great_row, bare)
            self.same(len(great_row(bare, len(bare))), 2 * len(bare) - 1)
            self.fails(Fewer(2), great_row, bare, 2)

    def test_the_row_of_a_room_may_be_short_where_that_of_the_plan_is_not(self):
        bare = made_bare(200, 3, 3)
        _, row = teller(bare)
        self.fails(TooMany(20000), great_plan, bare)
        for room in (15, 60, 120):
            made = great_row(bare, room)
            self.assertIsNone(row_fault(bare, made, room))
            self.same(made, row(bare.end, frozenset(), room))

    def test_rows_a_little_below_20000_moves_and_a_little_above(self):
        bare = made_bare(200, 6, 4)
        _, row = teller(bare)
        self.assertGreater(len(row(bare.end, frozenset(), 19)), 20000)
        self.fails(TooMany(20000), great_row, bare, 19)
        self.same(great_row(bare, 20), row(bare.end, frozenset(), 20))
        self.same(len(great_row(bare, 20)), 19345)

    def test_rows_of_more_than_20000_moves(self):
        # each of these rooms is enough, as the row of a greater one shows
        self.fails(TooMany(20000), great_row, pyramid(19), 60)
        self.fails(TooMany(20000), great_row, pyramid(19), 100)

    def test_errors(self):
        for room in (0, 201, -1, *[thing for thing in NO_NUMBERS if thing is not None]):
            self.fails(BadRoom(), great_row, chain(9), room)
            self.fails(BadRoom(), great_row, pyramid(19), room)


class Chosen(Checks):

    def test_8_places_and_9(self):
        for bare in list(some_bares(5, 9)) + list(large_bares(6)):
            for room in range(price_of(bare), len(bare) + 1):
                self.same(chosen_row(bare, room), fewest_moves(bare, room))
            self.fails(Fewer(price_of(bare) - 1) if price_of(bare) > 1 else BadRoom(), chosen_row, bare, price_of(bare) - 1)
        for bare in list(large_bares(10, (9, 10, 14))) + [chain(9), binary_tree(3)]:
            for room in range(great_cells(bare), len(bare) + 1):
                self.same(chosen_row(bare, room), great_row(bare, room))
            self.fails(Fewer(great_cells(bare) - 1), chosen_row, bare, great_cells(bare) - 1)

    def test_the_two_are_told_apart(self):
        self.assertNotEqual(chosen_row(chain(8), 5), great_row(chain(8), 5))

    def test_errors(self):
        for bare in (chain(8), chain(9)):
            for room in (0, 201, -1, *[thing for thing in NO_NUMBERS if thing is not None]):
                self.fails(BadRoom(), chosen_row, bare, room)
        self.fails(TooMany(20000), chosen_row, pyramid(19), 60)

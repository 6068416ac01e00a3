"""[6.7]: books of the challenger."""

from itertools import product

from helpers import NO_NUMBERS, NO_SEQUENCES, Checks, Rule, chain, every_standing, large_bares, some_bares
from test_rounds import needed_by
from undocells.bares import Bare
from undocells.books import book_against, book_fault, goes_over
from undocells.errors import BadRounds, Enough, TooMany
from undocells.games import Game, play_out
from undocells.plans import best_plan
from undocells.rounds import rounds_of
from undocells.search import price_of

THREE = chain(3)
DIAMOND = Bare([[], [0], [0], [1, 2]], 3)
# the challenger goes over at 0 with nothing filled, and stays at 1: two rounds are not enough for three places
BOOK = (((), 2, (1,)),)


def is_rising(bare, places):
    return (isinstance(places, tuple) and all(isinstance(p, int) and not isinstance(p, bool) for p in places)
            and all(0 <= p < len(bare) for p in places) and list(places) == sorted(set(places)))


def is_entry(bare, entry, rounds):
    if not isinstance(entry, tuple) or len(entry) != 3:
        return False
    filled, asked, goes = entry
    if not is_rising(bare, filled) or not is_rising(bare, goes) or not is_rising(bare, (asked,)):
        return False
    return len({*filled, asked, *goes}) == len(filled) + 1 + len(goes) and rounds - 1 - len(filled) >= 1


def behind(bare, entry):
    """The states behind all fillings, as (set of filled, asked)."""
    filled, asked, goes = entry
    for place in range(len(bare)):
        if place != asked and place not in filled:
            yield (set(filled) | {asked}, place) if place in goes else (set(filled) | {place}, asked)


def fault_told(bare, book, rounds):
    """The word for a book, by the words of the document."""
    def settled(filled, asked):
        return set(bare.befores[asked]) <= set(filled)

    if not all(is_entry(bare, entry, rounds) for entry in book):
        return "entry"
    if any(not one[:2] < other[:2] for one, other in zip(book, book[1:])):
        return "order"
    states = [(set(filled), asked) for filled, asked, _ in book]
    if rounds > 1 and (set(), bare.end) not in states:
        return "first"
    if rounds == 1 and settled((), bare.end) or any(settled(*state) for state in states):
        return "settled"
    for entry in book:
        if any(rounds - 1 - len(filled) == 0 and settled(filled, asked) for filled, asked in behind(bare, entry)):
            return "settled"
    for entry in book:
        if any(rounds - 1 - len(filled) > 0 and (filled, asked) not in states for filled, asked in behind(bare, entry)):
            return "missing"
    return None


def book_told(bare, rounds):
    """The book of the document, found by walking through all states that can be met."""
    needed = needed_by(bare)
    entries = {}

    def meet(filled, asked):
        left = rounds - 1 - len(filled)
        if left == 0 or (filled, asked) in entries:
            return
        places = [p for p in range(len(bare)) if p != asked and p not in filled]
        goes = tuple(p for p in places if not needed(asked, filled | {p}) > left - 1)
        entries[filled, asked] = (tuple(sorted(filled)), asked, goes)
        for other, place in behind(bare, entries[filled, asked]):
            meet(frozenset(other), place)

    meet(frozenset(), bare.end)
    return tuple(sorted(entries.values()))


def is_beaten(bare, book, rounds, turns=()):
    """Whether every asker is beaten by the book, tried turn by turn."""
    game = Game(bare, rounds, turns)
    if game.winner is not None:
        return game.winner == "challenger"
    places = [p for p in range(len(bare)) if p != game.asked and p not in game.filled]
    return all(is_beaten(bare, book, rounds, turns + ((p, goes_over(book, game.filled, game.asked, p)),)) for p in places)


class Faults(Checks):

    def test_right_books(self):
        self.assertIsNone(book_fault(THREE, BOOK, 2))
        self.assertIsNone(book_fault(THREE, (), 1))
        self.assertIsNone(book_fault(chain(200), (), 1))

    def test_entry(self):
        wrong = [None, 3, "abc", [(), 2, (1,)], (), ((), 2), ((), 2, (1,), ()), ([], 2, (1,)), ((), 2, [1]), ((), 2, 1),
                 ((), 2, (1, 0)), ((), 2, (1, 1)), ((), 2, (3,)), ((), 2, (-1,)), ((), 3, ()), ((), -1, ()),
                 ((), 2, (2,)), ((0,), 0, ()), ((0,), 2, (0,)), ((1, 0), 2, ()), ((0, 0), 2, ()), ((5,), 2, ()), (3, 2, ())]
        wrong += [((), thing, ()) for thing in NO_NUMBERS] + [((), 2, (thing,)) for thing in NO_NUMBERS]
        wrong += [((thing,), 2, ()) for thing in NO_NUMBERS]
        for entry in wrong:
            self.same(book_fault(THREE, (entry,), 9), "entry")
            self.same(book_fault(THREE, BOOK + (entry,), 9), "entry")

    def test_a_book_that_is_no_sequence(self):
        for thing in NO_SEQUENCES:
            self.same(book_fault(THREE, thing, 2), "entry")

    def test_entry_with_less_than_one_round_left(self):
        self.same(book_fault(THREE, BOOK, 1), "entry")
        self.same(book_fault(THREE, BOOK + (((0,), 2, ()),), 2), "entry")
        self.same(book_fault(DIAMOND, (((), 3, (1, 2)), ((0,), 3, ())), 2), "entry")

    def test_order(self):
        one, two, three = ((), 1, ()), ((), 2, (1,)), ((0,), 2, ())
        self.same(book_fault(THREE, (two, one), 3), "order")
        self.same(book_fault(THREE, (two, two), 3), "order")
        self.same(book_fault(THREE, (two, ((), 2, ())), 3), "order")
        self.same(book_fault(THREE, (three, two), 3), "order")
        # the second place of the filled ones comes ahead of the asked one
        self.same(book_fault(chain(4), (((), 3, ()), ((0, 1), 2, ()), ((0,), 3, ())), 5), "order")

    def test_first(self):
        self.same(book_fault(THREE, (), 2), "first")
        self.same(book_fault(THREE, (), 200), "first")
        self.same(book_fault(THREE, (((), 1, ()),), 2), "first")
        self.same(book_fault(THREE, (((1,), 2, ()),), 3), "first")

    def test_settled(self):
        self.same(book_fault(chain(1), (), 1), "settled")
        self.same(book_fault(chain(1), (((), 0, ()),), 2), "settled")
        self.same(book_fault(THREE, (((), 0, ()), ((), 2, (1,))), 2), "settled")
        # staying at 1 settles the end, going over at 0 settles 0
        self.same(book_fault(THREE, (((), 2, ()),), 2), "settled")
        self.same(book_fault(THREE, (((), 2, (0, 1)),), 2), "settled")

    def test_missing(self):
        self.same(book_fault(chain(5), (((), 4, ()),), 3), "missing")
        # with rounds left a settled state behind a filling has no entry: that is missing
        self.same(book_fault(THREE, (((), 2, ()),), 3), "missing")

    def test_the_first_of_two_faults(self):
        self.same(book_fault(THREE, (((0,), 2, ()), ((), 2, (2,))), 3), "entry")
        self.same(book_fault(THREE, (((), 1, ()), ((), 1, ())), 3), "order")
        self.same(book_fault(THREE, (((), 0, ()),), 2), "first")
        self.same(book_fault(chain(1), (), 2), "first")
        self.same(book_fault(THREE, (((), 2, ()), ((1,), 2, ())), 3), "settled")

    def test_all_books_of_tiny_webs(self):
        for bare, rounds, step in ((chain(1), 1, 1), (chain(2), 1, 1), (chain(2), 2, 1), (chain(2), 3, 1), (chain(3), 1, 1),
                                   (chain(3), 2, 1), (chain(3), 3, 17), (Bare([[], [], [0, 1]], 2), 2, 1),
                                   (Bare([[], [], [0, 1]], 2), 3, 23)):
            right = 0
            for count, book in enumerate(self.books(bare, rounds)):
                if count % step == 0:
                    word = book_fault(bare, book, rounds)
                    self.same(word, fault_told(bare, book, rounds))
                    if word is None:
                        right += 1
                        self.assertTrue(is_beaten(bare, book, rounds))
            self.same(right > 0, rounds < price_of(bare))

    def books(self, bare, rounds):
        choices = []
        for filled in sorted(every_standing(len(bare))):
            for asked in range(len(bare)):
                if asked not in filled and rounds - 1 - len(filled) >= 1:
                    others = [p for p in range(len(bare)) if p != asked and p not in filled]
                    goes = [tuple(p for p in others if p in chosen) for chosen in every_standing(len(bare))]
                    choices.append([None] + [(filled, asked, listed) for listed in sorted(set(goes))])
        for chosen in product(*choices):
            yield tuple(entry for entry in chosen if entry)

    def test_spoilt_books(self):
        words = []
        for seed, bare in enumerate(list(some_bares(5, 7, 3)) + list(large_bares(3, (6,)))):
            for rounds in range(2, price_of(bare)):
                book = book_against(bare, rounds)
                for spoilt in self.spoilt(bare, book, Rule(seed)):
                    word = book_fault(bare, spoilt, rounds)
                    self.same(word, fault_told(bare, spoilt, rounds))
                    words.append(word)
        self.assertEqual(set(words), {None, "entry", "order", "first", "settled", "missing"})

    def spoilt(self, bare, book, rule):
        for _ in range(6):
            at = rule.below(len(book))
            filled, asked, goes = book[at]
            yield book[:at] + book[at + 1:]
            yield book[:at] + book[at:at + 1] + book[at:]
            yield book[at:] + book[:at]
            place = rule.below(len(bare))
            other = tuple(sorted(set(goes) ^ {place}))
            yield book[:at] + ((filled, asked, other),) + book[at + 1:]
            yield tuple(sorted((*book, (tuple(sorted({place, *filled})), rule.below(len(bare)), ()))))

    def test_any_web(self):
        star = Bare([[] for _ in range(199)] + [list(range(199))], 199)
        self.assertIsNone(book_fault(star, (((), 199, tuple()),), 2))
        self.same(book_fault(star, (((), 199, (7,)),), 2), "settled")
        self.same(book_fault(star, (((), 199, ()),), 3), "missing")


class Against(Checks):

    def test_a_few(self):
        self.same(book_against(THREE, 2), BOOK)
        self.same(book_against(THREE, 1), ())
        self.same(book_against(chain(2), 1), ())
        self.same(book_against(DIAMOND, 2), (((), 3, ()),))

    def test_below_the_price_a_book_without_a_fault_from_the_price_on_none(self):
        for bare in list(some_bares(5, 3)) + list(large_bares(8)):
            price = price_of(bare)
            for rounds in range(1, price):
                book = book_against(bare, rounds)
                self.assertIsNone(book_fault(bare, book, rounds))
                self.same(book, book_told(bare, rounds))
            for rounds in (price, price + 1, 200):
                self.fails(Enough(price), book_against, bare, rounds)
            self.same(rounds_of(bare), price)

    def test_every_asker_is_beaten(self):
        for bare in list(some_bares(4, 1)) + list(some_bares(5, 11)):
            for rounds in range(1, price_of(bare)):
                self.assertTrue(is_beaten(bare, book_against(bare, rounds), rounds))

    def test_every_plan_of_a_best_asker_is_beaten_below_the_price_and_wins_from_it_on(self):
        for bare in list(some_bares(5, 5)) + list(large_bares(8)):
            plan, price = best_plan(bare), price_of(bare)
            for rounds in range(1, price):
                self.same(play_out(bare, plan, book_against(bare, rounds), rounds).winner, "challenger")
            for rounds in (price, price + 1):
                for book in ((), book_against(bare, price - 1) if price > 1 else ()):
                    self.same(play_out(bare, plan, book, rounds).winner, "asker")

    def test_errors(self):
        for rounds in (0, 201, -1, *NO_NUMBERS):
            self.fails(BadRounds(), book_against, chain(9), rounds)
        for rounds in (1, 200):
            self.fails(TooMany(8), book_against, chain(9), rounds)
            self.fails(Enough(1), book_against, chain(1), rounds)
        self.fails(Enough(4), book_against, chain(8), 200)
        self.fails(Enough(4), book_against, chain(8), 4)
        self.assertIsNone(book_fault(chain(8), book_against(chain(8), 3), 3))


class Answers(Checks):

    def test_goes_over(self):
        book = (((), 2, (0,)), ((0,), 2, ()), ((0, 1), 3, (2, 4)))
        self.assertIs(goes_over(book, (), 2, 0), True)
        self.assertIs(goes_over(book, (), 2, 1), False)
        self.assertIs(goes_over(book, (0,), 2, 1), False)
        self.assertIs(goes_over(book, (0, 1), 3, 4), True)
        self.assertIs(goes_over(book, [0, 1], 3, 4), True)

    def test_a_state_without_an_entry(self):
        self.assertIs(goes_over((), (), 2, 0), False)
        self.assertIs(goes_over(BOOK, (), 1, 1), False)
        self.assertIs(goes_over(BOOK, (0,), 2, 1), False)

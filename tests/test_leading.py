"""[7.5]: plans and books led from each game to the other."""

from itertools import permutations

from helpers import NO_NUMBERS, Checks, Rule, chain, large_bares, some_bares
from test_books import behind as states_behind
from test_hues import is_over, names_by
from test_namings import made_naming
from test_painters import behind as paintings_behind
from test_plans import length_of, made_plan
from test_rounds import needed_by
from undocells.bares import Bare
from undocells.books import book_against, book_fault
from undocells.errors import BadBook, BadNaming, BadPlan, BadRounds, TooMany
from undocells.leading import (
    asking_from_naming, challenger_from_painter, naming_from_asking, painter_from_challenger)
from undocells.namings import naming_fault, naming_plan, plan_names
from undocells.painters import painter_book, painter_fault
from undocells.plans import best_plan, plan_fault, plan_length
from undocells.search import price_of

DIAMOND = Bare([[], [0], [0], [1, 2]], 3)


def webs():
    return list(some_bares(5, 1)) + list(large_bares(12, (6, 7)))


def dear_webs():
    """Webs of 7 and 8 places with many arrows, which need many rounds."""
    for seed in range(60):
        rule = Rule(seed)
        many = rule.one_of((7, 8))
        befores = [[low for low in range(high) if rule.below(2 + seed % 2) == 0] for high in range(many)]
        for place in range(many - 1):
            if not any(place in listed for listed in befores):
                befores[place + 1 + rule.below(many - 1 - place)].append(place)
        yield Bare(befores, many - 1)


def made_book(bare, rounds, rule):
    """Any right book of the challenger, chosen by a rule, with an entry more now and then."""
    needed = needed_by(bare)
    entries = {}

    def meet(filled, asked):
        left = rounds - 1 - len(filled)
        if left == 0 or (filled, asked) in entries:
            return
        goes = []
        for place in range(len(bare)):
            if place != asked and place not in filled:
                stays = needed(asked, filled | {place}) > left - 1
                may_go = needed(place, filled | {asked}) > left - 1
                if may_go and (not stays or rule.below(2)):
                    goes.append(place)
        entries[filled, asked] = (tuple(sorted(filled)), asked, tuple(goes))
        for other, place in states_behind(bare, entries[filled, asked]):
            meet(frozenset(other), place)

    meet(frozenset(), bare.end)
    return tuple(sorted(entries.values()))


def made_painter(bare, names, rule):
    """Any right painter's book, chosen by a rule."""
    needed = names_by(bare)
    told = {}

    def reach(reds, blues):
        many = len(reds) + len(blues)
        if many >= names or (reds, blues) in told:
            return
        reddened = []
        for place in range(len(bare)):
            if place not in reds | blues:
                may_blue = needed(reds, blues | {place}) > names - many - 1
                may_red = needed(reds | {place}, blues) > names - many - 1
                if may_red and (not may_blue or rule.below(2)):
                    reddened.append(place)
        told[reds, blues] = reddened
        for other in paintings_behind(bare, reds, blues, reddened):
            reach(*other)

    reach(frozenset([bare.end]), frozenset())
    return tuple((tuple(sorted(reds)), tuple(sorted(blues)), tuple(reddened)) for (reds, blues), reddened in told.items())


class Askings(Checks):
    """naming_from_asking"""

    def check(self, bare, plan):
        naming = naming_from_asking(bare, plan)
        self.assertIsNone(naming_fault(bare, naming))
        self.assertLessEqual(plan_names(naming), plan_length(plan))
        return naming

    def test_a_few(self):
        self.same(naming_from_asking(chain(1), ()), ())
        self.same(naming_from_asking(chain(2), (0, (), ())), (0, (), ()))
        self.check(chain(3), (1, (), (0, (), ())))
        self.check(DIAMOND, best_plan(DIAMOND))

    def test_all_plans_of_a_rule(self):
        for seed, bare in enumerate(webs()):
            for lazy in (2, 3, 50):
                self.check(bare, made_plan(bare, bare.end, frozenset(), Rule(seed), lazy))

    def test_best_plans(self):
        for bare in webs():
            naming = self.check(bare, best_plan(bare))
            self.same(plan_names(naming), price_of(bare) - 1)

    def test_errors(self):
        for plan, word in (((), "early"), ((9, (), ()), "place"), ((6, (0, (), ()), (5, (), ())), "idle")):
            self.fails(BadPlan(word), naming_from_asking, chain(8), plan)
            self.fails(TooMany(8), naming_from_asking, chain(9), plan)
        self.fails(BadPlan("idle"), naming_from_asking, chain(1), (0, (), ()))
        self.assertIsNone(naming_fault(chain(8), naming_from_asking(chain(8), best_plan(chain(8)))))


class Namings(Checks):
    """asking_from_naming"""

    def check(self, bare, naming):
        plan = asking_from_naming(bare, naming)
        self.assertIsNone(plan_fault(bare, plan))
        self.assertLessEqual(plan_length(plan), plan_names(naming))
        return plan

    def test_a_few(self):
        self.same(asking_from_naming(chain(1), ()), ())
        self.same(asking_from_naming(chain(2), (0, (), ())), (0, (), ()))
        self.check(chain(3), (1, (0, (), ()), ()))
        self.check(DIAMOND, naming_plan(DIAMOND))

    def test_all_naming_plans_of_a_rule(self):
        for seed, bare in enumerate(webs()):
            for times in range(3):
                self.check(bare, made_naming(bare, frozenset([bare.end]), frozenset(), Rule(seed + 1000 * times)))

    def test_naming_in_any_order(self):
        # place 3 counts as blue while 2 is asked, and keeps 4 blue when 1 is asked, though a road leads from 1 to it
        for bare in (Bare([[], [0], [1], [1], [3], [2, 4]], 5), Bare([[], [0], [0, 1], [1], [2], [3, 4]], 5), chain(6)):
            for order in permutations(range(5)):
                self.check(bare, self.ordered(bare, order, frozenset([5]), frozenset()))

    def ordered(self, bare, order, reds, blues):
        """The naming plan that names the places in an order until the painting is over."""
        if is_over(bare, reds, blues):
            return ()
        place, *rest = order
        red = self.ordered(bare, rest, reds | {place}, blues)
        return (place, red, self.ordered(bare, rest, reds, blues | {place}))

    def test_best_naming_plans(self):
        for bare in webs():
            self.same(plan_length(self.check(bare, naming_plan(bare))), price_of(bare) - 1)

    def test_there_and_back(self):
        for seed, bare in enumerate(webs()):
            plan = made_plan(bare, bare.end, frozenset(), Rule(seed))
            self.assertLessEqual(length_of(self.check(bare, naming_from_asking(bare, plan))), length_of(plan))
            naming = made_naming(bare, frozenset([bare.end]), frozenset(), Rule(seed))
            again = naming_from_asking(bare, self.check(bare, naming))
            self.assertIsNone(naming_fault(bare, again))
            self.assertLessEqual(length_of(again), length_of(naming))

    def test_errors(self):
        for plan, word in ((None, "form"), ((), "early"), ((9, (), ()), "place"), ((6, (5, (), ()), 3), "early")):
            self.fails(BadNaming(word), asking_from_naming, chain(8), plan)
            self.fails(TooMany(8), asking_from_naming, chain(9), plan)
        self.fails(BadNaming("idle"), asking_from_naming, chain(1), (0, (), ()))
        self.assertIsNone(plan_fault(chain(8), asking_from_naming(chain(8), naming_plan(chain(8)))))


class Challengers(Checks):
    """painter_from_challenger"""

    def check(self, bare, book, rounds):
        led = painter_from_challenger(bare, book, rounds)
        self.assertIsNone(painter_fault(bare, led, rounds))
        return led

    def test_a_few(self):
        self.same(painter_from_challenger(chain(2), (), 1), ())
        self.check(chain(3), (((), 2, (1,)),), 2)
        self.check(chain(8), book_against(chain(8), 3), 3)

    def test_all_books_of_a_rule(self):
        for seed, bare in enumerate(webs()):
            for rounds in range(1, price_of(bare)):
                self.check(bare, book_against(bare, rounds), rounds)
                self.check(bare, made_book(bare, rounds, Rule(seed)), rounds)

    def test_books_of_webs_that_need_many_rounds(self):
        for seed, bare in enumerate(dear_webs()):
            for rounds in range(4, price_of(bare)):
                led = self.check(bare, made_book(bare, rounds, Rule(seed)), rounds)
                self.assertIsNone(book_fault(bare, challenger_from_painter(bare, led, rounds), rounds))

    def test_entries_that_cannot_be_met(self):
        book = tuple(sorted((*book_against(chain(5), 3), ((0,), 3, (2,)))))
        self.assertIsNone(book_fault(chain(5), book, 3))
        self.check(chain(5), book, 3)

    def test_errors(self):
        for rounds in (0, 201, -1, *NO_NUMBERS):
            self.fails(BadRounds(), painter_from_challenger, chain(8), (3,), rounds)
            self.fails(TooMany(8), painter_from_challenger, chain(9), (3,), rounds)
        three = chain(3)
        for book, rounds, word in (((3,), 2, "entry"), ((((), 2, ()), ((), 1, ())), 3, "order"), ((), 2, "first"),
                                   ((((), 2, ()),), 2, "settled"), ((((), 2, ()),), 3, "missing")):
            self.fails(BadBook(word), painter_from_challenger, three, book, rounds)
        self.fails(BadBook("settled"), painter_from_challenger, chain(1), (), 1)
        self.fails(BadBook("first"), painter_from_challenger, three, (), 200)


class Painters(Checks):
    """challenger_from_painter"""

    def check(self, bare, book, names):
        led = challenger_from_painter(bare, book, names)
        self.assertIsInstance(led, tuple)
        self.assertIsNone(book_fault(bare, led, names))
        return led

    def test_a_few(self):
        self.same(challenger_from_painter(chain(2), (), 1), ())
        self.check(chain(3), (((2,), (), (1,)),), 2)
        self.check(chain(8), painter_book(chain(8), 3), 3)

    def test_all_books_of_a_rule(self):
        for seed, bare in enumerate(webs()):
            for names in range(1, price_of(bare)):
                self.check(bare, painter_book(bare, names), names)
                self.check(bare, made_painter(bare, names, Rule(seed)), names)

    def test_there_and_back(self):
        for seed, bare in enumerate(webs()):
            for rounds in range(1, price_of(bare)):
                book = painter_from_challenger(bare, made_book(bare, rounds, Rule(seed)), rounds)
                self.check(bare, book, rounds)
                other = challenger_from_painter(bare, made_painter(bare, rounds, Rule(seed)), rounds)
                self.assertIsNone(painter_fault(bare, painter_from_challenger(bare, other, rounds), rounds))

    def test_entries_that_are_not_reached(self):
        book = (((0, 1), (2,), ()), *painter_book(chain(5), 3))
        self.assertIsNone(painter_fault(chain(5), book, 3))
        self.check(chain(5), book, 3)

    def test_errors(self):
        for names in (0, 201, -1, *NO_NUMBERS):
            self.fails(BadRounds(), challenger_from_painter, chain(8), 3, names)
            self.fails(TooMany(8), challenger_from_painter, chain(9), 3, names)
        three, entry = chain(3), ((2,), (), (1,))
        for book, names, word in ((3, 2, "form"), ((entry, entry), 2, "twice"), ((((2,), (), (2,)),), 2, "reddened"),
                                  ((((2,), (), ()),), 2, "over"), ((entry,), 3, "missing"), ((), 200, "missing")):
            self.fails(BadBook(word), challenger_from_painter, three, book, names)
        self.fails(BadBook("over"), challenger_from_painter, chain(1), (), 1)

"""[7.4]: books of the painter."""

from helpers import NO_NUMBERS, Checks, Rule, chain, large_bares, some_bares
from test_hues import DIAMOND, is_over, names_by
from undocells.errors import BadRounds, Enough, TooMany
from undocells.hues import names_of
from undocells.namings import naming_plan, plan_names
from undocells.painters import painter_book, painter_fault

THREE = chain(3)
# with the end of three painted red the painter reddens 1 and leaves 0 blue
BOOK = (((2,), (), (1,)),)


def is_rising(bare, places):
    return (isinstance(places, tuple) and all(isinstance(p, int) and not isinstance(p, bool) for p in places)
            and all(0 <= p < len(bare) for p in places) and list(places) == sorted(set(places)))


def behind(bare, reds, blues, reddened):
    """The paintings behind naming one unpainted place."""
    for place in range(len(bare)):
        if place not in reds and place not in blues:
            yield (reds | {place}, blues) if place in reddened else (reds, blues | {place})


def reached_by(bare, told, names):
    """All reached paintings; told has for paintings the places that are to be red."""
    first = (frozenset([bare.end]), frozenset())
    reached, waiting = [first], [first]
    for reds, blues in waiting:
        if (reds, blues) in told and len(reds) + len(blues) < names:
            for other in behind(bare, reds, blues, told[reds, blues]):
                if other not in reached:
                    reached.append(other)
                    waiting.append(other)
    return reached


def fault_told(bare, book, names):
    """The word for a painter's book, by the words of the document."""
    for entry in book:
        if not isinstance(entry, tuple) or len(entry) != 3 or not all(is_rising(bare, part) for part in entry):
            return "form"
        if not entry[0] or set(entry[0]) & set(entry[1]):
            return "form"
    if len({entry[:2] for entry in book}) < len(book):
        return "twice"
    if any(set(reddened) & {*reds, *blues} for reds, blues, reddened in book):
        return "reddened"
    told = {(frozenset(reds), frozenset(blues)): reddened for reds, blues, reddened in book}
    reached = reached_by(bare, told, names)
    if any(is_over(bare, *painting) for painting in reached):
        return "over"
    if any(painting not in told and len(painting[0]) + len(painting[1]) < names for painting in reached):
        return "missing"
    return None


def book_told(bare, names):
    """The painter's book of the document, found by walking through all paintings that are reached."""
    needed = names_by(bare)
    told = {}

    def reach(reds, blues):
        many = len(reds) + len(blues)
        if many < names and (reds, blues) not in told:
            # blue is right where more names are still needed behind it than may yet be painted
            told[reds, blues] = [p for p in range(len(bare)) if p not in reds | blues
                                 and not needed(reds, blues | {p}) > names - many - 1]
            for other in behind(bare, reds, blues, told[reds, blues]):
                reach(*other)

    reach(frozenset([bare.end]), frozenset())
    return tuple(sorted((tuple(sorted(reds)), tuple(sorted(blues)), tuple(reddened))
                        for (reds, blues), reddened in told.items()))


class Faults(Checks):

    def test_right_books(self):
        self.assertIsNone(painter_fault(THREE, BOOK, 2))
        self.assertIsNone(painter_fault(THREE, (), 1))
        # entries that are not reached, in any order
        self.assertIsNone(painter_fault(THREE, (((2,), (0,), ()),) + BOOK + (((0, 1), (), ()),), 2))

    def test_form(self):
        for thing in (None, 3, "", [], list(BOOK)):
            self.same(painter_fault(THREE, thing, 2), "form")
        wrong = [None, 3, (), ((2,), ()), ((2,), (), (), ()), [(2,), (), ()], ([2], (), ()), ((2,), [], ()), ((2,), (), [1]),
                 ((), (), ()), ((), (0,), ()), ((2, 1), (), ()), ((2, 2), (), ()), ((3,), (), ()), ((-1,), (), ()),
                 ((2,), (1, 0), ()), ((2,), (3,), ()), ((2,), (), (3,)), ((2,), (), (1, 0)), ((2,), (2,), ()),
                 ((0, 2), (0, 1), ()), (2, (), ()), ((2,), None, ()), ((2,), (), None)]
        wrong += [((thing,), (), ()) for thing in NO_NUMBERS] + [((2,), (thing,), ()) for thing in NO_NUMBERS]
        wrong += [((2,), (), (thing,)) for thing in NO_NUMBERS]
        for entry in wrong:
            self.same(painter_fault(THREE, (entry,), 2), "form")
            self.same(painter_fault(THREE, BOOK + (entry,), 2), "form")

    def test_twice(self):
        self.same(painter_fault(THREE, BOOK + BOOK, 2), "twice")
        self.same(painter_fault(THREE, BOOK + (((2,), (), ()),), 2), "twice")
        self.same(painter_fault(THREE, BOOK + (((1,), (), ()), ((2,), (0,), ()), ((1,), (), (0,))), 2), "twice")

    def test_reddened(self):
        self.same(painter_fault(THREE, (((2,), (), (1, 2)),), 2), "reddened")
        self.same(painter_fault(THREE, BOOK + (((2,), (0,), (0,)),), 2), "reddened")

    def test_over(self):
        self.same(painter_fault(chain(1), (), 1), "over")
        self.same(painter_fault(chain(1), (((0,), (), ()),), 9), "over")
        self.same(painter_fault(THREE, (((2,), (), ()),), 2), "over")
        self.same(painter_fault(THREE, (((2,), (), (0, 1)),), 2), "over")

    def test_missing(self):
        self.same(painter_fault(THREE, (), 2), "missing")
        self.same(painter_fault(THREE, (((1,), (), ()),), 2), "missing")
        self.same(painter_fault(THREE, BOOK, 3), "missing")
        self.same(painter_fault(THREE, BOOK, 200), "missing")

    def test_the_first_of_two_faults(self):
        self.same(painter_fault(THREE, BOOK + BOOK + (None,), 2), "form")
        self.same(painter_fault(THREE, (((2,), (), (2,)), ((2,), (), (2,))), 2), "twice")
        self.same(painter_fault(THREE, (((2,), (), (0, 2)),), 2), "reddened")
        self.same(painter_fault(THREE, (((2,), (), (0,)),), 3), "over")
        self.same(painter_fault(chain(1), (), 2), "over")

    def test_spoilt_books(self):
        words = []
        for seed, bare in enumerate(list(some_bares(5, 7, 3)) + list(large_bares(3, (6,)))):
            for names in range(2, names_of(bare)):
                book, rule = painter_book(bare, names), Rule(seed)
                for _ in range(6):
                    for spoilt in self.spoilt(bare, book, rule):
                        word = painter_fault(bare, spoilt, names)
                        self.same(word, fault_told(bare, spoilt, names))
                        words.append(word)
        self.assertEqual(set(words), {None, "form", "twice", "reddened", "over", "missing"})

    def spoilt(self, bare, book, rule):
        at = rule.below(len(book))
        reds, blues, reddened = book[at]
        place = rule.below(len(bare))
        yield book[:at] + book[at + 1:]
        yield book[:at] + book[at:at + 1] + book[at:]
        yield book[at:] + book[:at]
        yield book[:at] + ((reds, blues, tuple(sorted(set(reddened) ^ {place}))),) + book[at + 1:]
        yield book[:at] + ((tuple(sorted({*reds, place})), blues, ()),) + book[at + 1:]

    def test_errors(self):
        for call in (lambda bare, names: painter_fault(bare, 3, names), painter_book):
            for names in (0, 201, -1, *NO_NUMBERS):
                self.fails(BadRounds(), call, chain(8), names)
                self.fails(TooMany(8), call, chain(9), names)
            self.fails(TooMany(8), call, chain(9), 2)
        for names in (1, 200):
            self.same(painter_fault(chain(8), 3, names), "form")
        self.same(painter_fault(chain(8), (), 200), "missing")


class Books(Checks):

    def test_a_few(self):
        self.same(painter_book(THREE, 2), BOOK)
        self.same(painter_book(THREE, 1), ())
        self.same(painter_book(DIAMOND, 2), (((3,), (), ()),))

    def test_below_the_price_a_book_without_a_fault_from_it_on_none(self):
        for bare in list(some_bares(5, 3)) + list(large_bares(4)):
            price = names_of(bare)
            for names in range(1, price):
                book = painter_book(bare, names)
                self.assertIsNone(painter_fault(bare, book, names))
                self.same(book, book_told(bare, names))
            for names in (price, price + 1, 200):
                self.fails(Enough(price), painter_book, bare, names)
        self.fails(Enough(4), painter_book, chain(8), 4)
        self.assertIsNone(painter_fault(chain(8), painter_book(chain(8), 3), 3))

    def test_every_namer_is_beaten(self):
        for bare in list(some_bares(4, 2)) + list(some_bares(5, 31)):
            for names in range(1, names_of(bare)):
                told = {(frozenset(reds), frozenset(blues)): reddened for reds, blues, reddened in painter_book(bare, names)}
                for reds, blues in reached_by(bare, told, names):
                    self.assertFalse(is_over(bare, reds, blues))
                    self.assertLessEqual(len(reds) + len(blues), names)

    def test_against_a_best_naming_plan_it_holds_out_to_the_last_name(self):
        for bare in list(some_bares(5, 5)) + list(large_bares(4)):
            names = names_of(bare) - 1
            if names < 1:
                continue
            told = {(reds, blues): reddened for reds, blues, reddened in painter_book(bare, names)}
            plan, reds, blues = naming_plan(bare), {bare.end}, set()
            while len(reds) + len(blues) < names:
                place, red, blue = plan
                is_red = place in told[tuple(sorted(reds)), tuple(sorted(blues))]
                (reds if is_red else blues).add(place)
                plan = red if is_red else blue
            self.assertFalse(is_over(bare, reds, blues))
            self.assertGreater(plan_names(plan), 0)

"""[3.8] to [3.10]: bare webs."""

from helpers import NO_NUMBERS, NO_SEQUENCES, Checks, arrow_lists, chain, mixed, mixed_bares
from undocells.bares import (
    Bare, bare_text, check_place, check_places, part_bare, places_under, read_bare, renumbered, struck_arrow)
from undocells.errors import BadBare, BadBareText, BadPlaces, NoArrow, NoPlace

DIAMOND = Bare([[], [0], [0], [1, 2]], 3)


def leads(befores, start, goal):
    """Whether one or more arrows lead from start to goal, found by walking forward."""
    seen, waiting = set(), [start]
    while waiting:
        place = waiting.pop()
        for after in range(len(befores)):
            if place in befores[after] and after not in seen:
                seen.add(after)
                waiting.append(after)
    return goal in seen


class Making(Checks):

    def test_attributes(self):
        bare = Bare([[3, 1], [], (1,), [2, 1]], 0)
        self.same((bare.befores, bare.end), (((1, 3), (), (1,), (1, 2)), 0))
        self.same(bare.afters, ((), (0, 2, 3), (3,), (0,)))
        self.same(bare.ordered, (1, 2, 3, 0))
        self.same(len(bare), 4)

    def test_one_place(self):
        for befores in ([[]], ((),), [()]):
            bare = Bare(befores, 0)
            self.same((bare.befores, bare.end, bare.afters, bare.ordered, len(bare)), (((),), 0, ((),), (0,), 1))

    def test_later_changes_have_no_effect(self):
        befores = [[], [0]]
        bare = Bare(befores, 1)
        befores[0].append(1)
        befores.append([])
        self.same(bare.befores, ((), (0,)))

    def test_1_to_200_places(self):
        self.same(len(chain(200)), 200)
        self.fails(BadBare(-1, "many"), chain, 201)
        for thing in ((), [], *NO_SEQUENCES):
            self.fails(BadBare(-1, "many"), Bare, thing, 0)
        self.fails(BadBare(-1, "many"), Bare, [None] * 201, None)

    def test_befores_that_are_no_places(self):
        for wrong in (*NO_SEQUENCES, [3], [-1], [1], [0, 0], [0, 2, 0], [[0]], *[[thing] for thing in NO_NUMBERS]):
            self.fails(BadBare(1, "place"), Bare, [[], wrong, [1]], None)
        self.fails(BadBare(0, "place"), Bare, [[0]], 0)

    def test_ends_that_are_no_places(self):
        for end in (3, -1, *NO_NUMBERS):
            self.fails(BadBare(-1, "end"), Bare, [[], [0], [1]], end)

    def test_rings(self):
        self.fails(BadBare(0, "ring"), Bare, [[1], [0]], 1)
        self.fails(BadBare(1, "ring"), Bare, [[], [0, 3], [1], [2], [3]], 4)
        self.fails(BadBare(1, "ring"), Bare, [[1], [2], [1], []], 0)
        # behind a ring, but on none
        self.fails(BadBare(2, "ring"), Bare, [[1], [2], [3], [2]], 0)

    def test_idle_places(self):
        self.fails(BadBare(1, "idle"), Bare, [[], [0], [0]], 2)
        self.fails(BadBare(2, "idle"), Bare, [[], [0], [1]], 1)
        self.fails(BadBare(0, "idle"), Bare, [[], []], 1)

    def test_the_order_of_the_errors(self):
        self.fails(BadBare(1, "place"), Bare, [[1], [7], [0]], 9)
        self.fails(BadBare(-1, "end"), Bare, [[1], [0], []], 9)
        self.fails(BadBare(1, "ring"), Bare, [[], [2], [1], []], 3)
        self.fails(BadBare(0, "place"), Bare, [[9], None], 9)

    def test_all_webs_of_three_places_with_all_ends(self):
        couples = [(a, b) for a in range(3) for b in range(3) if a != b]
        for number in range(64):
            befores = [[], [], []]
            for bit, (before, place) in enumerate(couples):
                if number >> bit & 1:
                    befores[place].append(before)
            for end in range(3):
                rings = [k for k in range(3) if leads(befores, k, k)]
                idle = [k for k in range(3) if k != end and not leads(befores, k, end)]
                if rings:
                    self.fails(BadBare(rings[0], "ring"), Bare, befores, end)
                elif idle:
                    self.fails(BadBare(idle[0], "idle"), Bare, befores, end)
                else:
                    self.same(Bare(befores, end).end, end)

    def test_many_webs_keep_to_the_words(self):
        for bare in mixed_bares(4):
            self.same(bare.afters[bare.end], ())
            for place in range(len(bare)):
                afters = tuple(k for k in range(len(bare)) if place in bare.befores[k])
                self.same(bare.afters[place], afters)
            listed = []
            while len(listed) < len(bare):
                listed.append(min(k for k in range(len(bare))
                                  if k not in listed and set(bare.befores[k]) <= set(listed)))
            self.same(bare.ordered, tuple(listed))

    def test_equality(self):
        self.assertTrue(DIAMOND == Bare([(), (0,), (0,), (2, 1)], 3))
        self.assertFalse(DIAMOND != Bare([(), (0,), (0,), (2, 1)], 3))
        for other in (Bare([[], [0], [0, 1], [1, 2]], 3), mixed(DIAMOND), chain(4), None, ((), (0,), (0,), (1, 2))):
            self.assertFalse(DIAMOND == other)
            self.assertTrue(DIAMOND != other)


class Checking(Checks):

    def test_check_place(self):
        for place in range(4):
            self.same(check_place(DIAMOND, place), place)
        for thing in (4, -1, 10 ** 40, *NO_NUMBERS):
            self.fails(NoPlace(thing), check_place, DIAMOND, thing)

    def test_check_places(self):
        self.same(check_places(DIAMOND, [3, 0, 2]), (0, 2, 3))
        self.same(check_places(DIAMOND, ()), ())
        for thing in NO_SEQUENCES:
            self.fails(BadPlaces(-1), check_places, DIAMOND, thing)
        for wrong in (4, -1, *NO_NUMBERS):
            self.fails(BadPlaces(1), check_places, DIAMOND, [2, wrong, 2])
        self.fails(BadPlaces(2), check_places, DIAMOND, (2, 1, 2, 9))
        self.fails(BadPlaces(1), check_places, DIAMOND, (2, 9, 2))


class Parts(Checks):

    def test_places_under(self):
        self.same([places_under(DIAMOND, place) for place in range(4)], [(), (0,), (0,), (0, 1, 2)])
        for bare in mixed_bares(4):
            for place in range(len(bare)):
                under = tuple(k for k in range(len(bare)) if k != place and leads(bare.befores, k, place))
                self.same(places_under(bare, place), under)

    def test_part_bare(self):
        bare = Bare([[4], [0, 3], [], [2], []], 1)
        part, places = part_bare(bare, 3)
        self.same((part.befores, part.end, places), (((), (0,)), 1, (2, 3)))
        part, places = part_bare(bare, 0)
        self.same((part.befores, part.end, places), (((1,), ()), 0, (0, 4)))

    def test_part_bare_of_many_webs(self):
        for bare in mixed_bares(4):
            for place in range(len(bare)):
                part, places = part_bare(bare, place)
                self.same(places, tuple(sorted(places_under(bare, place) + (place,))))
                self.same(places[part.end], place)
                for new, old in enumerate(places):
                    self.same(tuple(places[k] for k in part.befores[new]), bare.befores[old])

    def test_no_places(self):
        for thing in (4, -1, *NO_NUMBERS):
            self.fails(NoPlace(thing), places_under, DIAMOND, thing)
            self.fails(NoPlace(thing), part_bare, DIAMOND, thing)


class Arrows(Checks):

    def test_struck_arrow(self):
        bare = Bare([[], [0], [0, 1]], 2)
        self.same(struck_arrow(bare, 2, 0).befores, ((), (0,), (1,)))
        self.same(struck_arrow(bare, 1, 0).befores, ((), (), (0, 1)))
        self.same(bare.befores, ((), (0,), (0, 1)))

    def test_errors(self):
        bare = Bare([[], [0], [0, 1]], 2)
        for thing in (3, -1, *NO_NUMBERS):
            self.fails(NoPlace(thing), struck_arrow, bare, thing, 7)
            self.fails(NoArrow(2, thing), struck_arrow, bare, 2, thing)
        self.fails(NoArrow(0, 1), struck_arrow, bare, 0, 1)
        self.fails(NoArrow(1, 2), struck_arrow, bare, 1, 2)
        self.fails(BadBare(1, "idle"), struck_arrow, bare, 2, 1)

    def test_the_least_place_that_loses_its_last_road(self):
        self.fails(BadBare(0, "idle"), struck_arrow, chain(5), 4, 3)
        self.fails(BadBare(1, "idle"), struck_arrow, Bare([[], [], [1], [0, 2]], 3), 3, 2)

    def test_all_arrows_of_many_webs(self):
        for bare in mixed_bares(4):
            for place in range(len(bare)):
                for before in range(len(bare)):
                    if before not in bare.befores[place]:
                        self.fails(NoArrow(place, before), struck_arrow, bare, place, before)
                        continue
                    rest = [list(listed) for listed in bare.befores]
                    rest[place].remove(before)
                    idle = [k for k in range(len(bare)) if k != bare.end and not leads(rest, k, bare.end)]
                    if idle:
                        self.fails(BadBare(idle[0], "idle"), struck_arrow, bare, place, before)
                    else:
                        self.assertTrue(struck_arrow(bare, place, before) == Bare(rest, bare.end))


class Renumbering(Checks):

    def test_renumbered(self):
        self.same(renumbered(DIAMOND, [3, 1, 0, 2]).befores, ((3,), (3,), (0, 1), ()))
        self.same(renumbered(DIAMOND, (3, 1, 0, 2)).end, 2)
        self.assertTrue(renumbered(DIAMOND, (0, 1, 2, 3)) == DIAMOND)

    def test_errors(self):
        for thing in NO_SEQUENCES:
            self.fails(BadPlaces(-1), renumbered, DIAMOND, thing)
        self.fails(BadPlaces(-1), renumbered, DIAMOND, (0, 1, 2))
        self.fails(BadPlaces(-1), renumbered, DIAMOND, ())
        self.fails(BadPlaces(2), renumbered, DIAMOND, (0, 1, 1, 3))
        self.fails(BadPlaces(2), renumbered, DIAMOND, (0, 1, True))
        self.fails(BadPlaces(4), renumbered, DIAMOND, (0, 1, 2, 3, 3))

    def test_there_and_back(self):
        for bare in mixed_bares(4):
            many = len(bare)
            there = [(place + 1) % many for place in range(many)]
            back = [(place - 1) % many for place in range(many)]
            moved = renumbered(bare, there)
            for place in range(many):
                self.same(moved.befores[there[place]], tuple(sorted(there[k] for k in bare.befores[place])))
            self.assertTrue(renumbered(moved, back) == bare)


class Texts(Checks):

    def test_bare_text(self):
        self.same(bare_text(Bare([[], [0], [0, 1]], 2)), "2: -; 0; 0 1")
        self.same(bare_text(Bare([[]], 0)), "0: -")
        self.same(bare_text(Bare([[2, 1], [], [1]], 0)), "0: 1 2; -; 1")

    def test_there_and_back(self):
        for bare in mixed_bares(4):
            self.assertTrue(read_bare(bare_text(bare)) == bare)
        for befores in arrow_lists(3):
            text = "2: " + "; ".join(" ".join(map(str, listed)) or "-" for listed in befores)
            try:
                self.same(bare_text(read_bare(text)), text)
            except BadBare as error:
                self.same(error.what, "idle")

    def test_the_greatest_web(self):
        full = Bare([range_list(place) for place in range(200)], 199)
        self.assertTrue(read_bare(bare_text(full)) == full)

    def test_faults_of_the_whole(self):
        for thing in (None, 3, True, ["0: -"], b"0: -", ("0: -",)):
            self.fails(BadBareText(-1), read_bare, thing)
        for text in ("", "0", "0:", "0:-", ": -", "x: -", " 0: -", "00: -", "1000: -", "-: -", "-1: -", "0 : -", "+0: -",
                     "\u0661: -", "0\n: -", "01: -", "0:  -"[:2] + "-", "1 0: -", "999", "\u00b2: -"):
            self.fails(BadBareText(-1), read_bare, text)

    def test_the_greatest_length_and_one_more(self):
        text = "0: " + "1" * (100000 - 3)
        self.fails(BadBareText(0), read_bare, text)
        self.fails(BadBareText(-1), read_bare, text + "1")
        self.fails(BadBareText(0), read_bare, "0: " + "; " * ((100000 - 3) // 2))

    def test_faults_of_parts(self):
        for part in ("", " ", "--", "- ", " -", "x", "1 1", "2 1", "1  2", "1 ", " 1", "01", "1000", "1 -", "- 1", "1,2",
                     "1;2", "-1", "+1", "\u0661", "1\n", "1 02", "9 10 10", ": ", "1: 2", "0 1 2 1"):
            self.fails(BadBareText(1), read_bare, "0: -; " + part)
            self.fails(BadBareText(1), read_bare, "0: 0; " + part + "; x")
        self.fails(BadBareText(0), read_bare, "0: ")
        self.fails(BadBareText(0), read_bare, "0:  -")
        self.fails(BadBareText(0), read_bare, "0: -;")
        self.fails(BadBareText(1), read_bare, "0: -; ")
        self.fails(BadBareText(0), read_bare, "0: -;-")
        self.fails(BadBareText(2), read_bare, "2: -; 0; 1 0")

    def test_then_the_errors_of_a_bare_web(self):
        self.fails(BadBare(1, "place"), read_bare, "0: -; 999")
        self.fails(BadBare(0, "place"), read_bare, "0: 0")
        self.fails(BadBare(-1, "end"), read_bare, "999: -")
        self.fails(BadBare(0, "ring"), read_bare, "0: 1; 0")
        self.fails(BadBare(1, "idle"), read_bare, "0: -; -")
        self.fails(BadBare(-1, "many"), read_bare, "0: " + "; ".join(["-"] * 201))
        self.fails(BadBareText(201), read_bare, "0: " + "; ".join(["-"] * 201 + ["x"]))


def range_list(count):
    return list(range(count))

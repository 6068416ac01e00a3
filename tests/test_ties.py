"""[8.2] to [8.5]: in-trees and numberings of their ties."""

from itertools import product

from helpers import NO_NUMBERS, NO_SEQUENCES, Checks, Rule, binary_tree, chain
from trees import NO_TREES, all_trees, great_trees, made_tree, some_trees, star, tree_of
from undocells.bares import Bare
from undocells.dealing import deal_out
from undocells.errors import BadNumbering, NoPlace, NotTree
from undocells.search import price_of
from undocells.ties import (
    check_in_tree, least_numbering, numbering_fault, numbering_turned, tree_price, tree_turned, tree_weight)

NO_PLACES = (-1, 200, *NO_NUMBERS)


def after_of(bare, place):
    return [after for after, befores in enumerate(bare.befores) if place in befores][0]


def way_between(bare, one, other):
    """The ties on the way between two ties, without them: ties told by their places."""
    def up(place):
        road = [place]
        while road[-1] != bare.end:
            road.append(after_of(bare, road[-1]))
        return road

    # the ties of a road to the end are those of its places but the last
    first, second = up(one)[:-1], up(other)[:-1]
    shared = set(first) & set(second)
    if one in second:
        return set(second) - set(first) - {other}
    if other in first:
        return set(first) - set(second) - {one}
    return (set(first) | set(second)) - shared - {one, other}


def is_right(bare, numbering):
    """Whether a numbering is right, by the words of the document."""
    ties = [place for place in range(len(bare)) if place != bare.end]
    for one in ties:
        for other in ties:
            if one < other and numbering[one] == numbering[other]:
                if not any(numbering[tie] > numbering[one] for tie in way_between(bare, one, other)):
                    return False
    return True


def made_numbering(bare, rule, most):
    return tuple(None if place == bare.end else rule.below(most) for place in range(len(bare)))


def weight_by(bare, place):
    """The weight of a place by the words of the document."""
    return deal_out([weight_by(bare, before) + 1 for before in bare.befores[place]])[0]


class Trees(Checks):

    def test_in_trees(self):
        for bare in (chain(1), chain(200), star(200), binary_tree(3), *some_trees(6, 7)):
            self.assertIsNone(check_in_tree(bare))

    def test_not_trees_come_first_in_all_functions(self):
        for bare, place in NO_TREES:
            for call, *rest in ((check_in_tree,), (tree_weight,), (tree_price,), (least_numbering,),
                                (numbering_fault, None), (tree_turned, None), (numbering_turned, None, None)):
                self.fails(NotTree(place), call, bare, *rest)


class Weights(Checks):

    def test_a_few(self):
        self.same([tree_weight(chain(n)) for n in (1, 2, 3, 4, 5, 200)], [0, 1, 2, 3, 4, 199])
        self.same([tree_price(chain(n)) for n in (1, 2, 3, 4, 5, 8, 9, 200)], [1, 2, 3, 3, 4, 4, 5, 9])
        self.same([tree_weight(star(n)) for n in (1, 2, 3, 4)], [0, 1, 3, 7])
        self.same(tree_price(star(200)), 200)
        self.same(tree_weight(star(200)), 2 ** 199 - 1)
        self.same(tree_price(binary_tree(2)), 5)

    def test_by_the_words_of_the_document(self):
        for bare in some_trees(6, 3):
            self.same(tree_weight(bare), weight_by(bare, bare.end))
            self.same(tree_price(bare), 1 + weight_by(bare, bare.end).bit_length())

    def test_the_price_of_a_tree_is_the_price_by_search_whichever_place_is_the_end(self):
        for bare in list(all_trees(5)) + list(some_trees(7, 17, 6)) + [made_tree(8, seed) for seed in range(30)]:
            price = price_of(bare)
            for end in range(len(bare)):
                turned = tree_turned(bare, end)
                self.same(tree_price(turned), price)
            self.same(price_of(turned), price)

    def test_the_same_for_all_ends_of_great_trees(self):
        for bare in great_trees():
            price = tree_price(bare)
            for end in range(0, len(bare), 17):
                self.same(tree_price(tree_turned(bare, end)), price)


class Faults(Checks):

    def test_right_numberings(self):
        self.assertIsNone(numbering_fault(chain(1), (None,)))
        self.assertIsNone(numbering_fault(chain(2), [0, None]))
        self.assertIsNone(numbering_fault(chain(4), (0, 1, 0, None)))
        self.assertIsNone(numbering_fault(chain(4), (10 ** 40, 3, 2, None)))
        self.assertIsNone(numbering_fault(star(4), (2, 0, 1, None)))

    def test_form(self):
        for thing in (*NO_SEQUENCES, (), (None,), (0,), (0, 1, None, 0), (0, 1, 2), (None, 0, 1), (0, None, 1), (0, None, None)):
            self.same(numbering_fault(chain(3), thing), "form")
        for thing in (-1, True, False, None, "1", 1.0, (1,)):
            self.same(numbering_fault(chain(3), (0, thing, None)), "form")
        for thing in (0, False, "", ()):
            self.same(numbering_fault(chain(1), (thing,)), "form")

    def test_tie(self):
        self.same(numbering_fault(chain(3), (0, 0, None)), "tie")
        self.same(numbering_fault(chain(4), (1, 0, 1, None)), "tie")
        self.same(numbering_fault(star(3), (4, 4, None)), "tie")
        self.same(numbering_fault(chain(4), (0, 1, 1, None)), "tie")
        # the way between two ties may lead down from one side and up on the other
        tree = Bare([[], [], [0], [1], [2, 3]], 4)
        self.same(numbering_fault(tree, (0, 0, 1, 1, None)), "tie")
        self.assertIsNone(numbering_fault(tree, (0, 0, 2, 1, None)))
        self.same(numbering_fault(tree, (2, 2, 0, 1, None)), "tie")

    def test_form_comes_first(self):
        self.same(numbering_fault(chain(4), (0, 0, True, None)), "form")
        self.same(numbering_fault(chain(4), (0, 0, 0, 0)), "form")

    def test_all_numberings_of_small_trees(self):
        for bare in all_trees(5):
            for numbers in product(range(3), repeat=len(bare) - 1):
                numbering = [*numbers[:bare.end], None, *numbers[bare.end:]]
                self.same(numbering_fault(bare, numbering), None if is_right(bare, numbering) else "tie")

    def test_numberings_of_a_rule(self):
        right = 0
        for seed in range(300):
            bare = made_tree(6 + seed % 4, seed)
            numbering = made_numbering(bare, Rule(seed), 7)
            right += is_right(bare, numbering)
            self.same(numbering_fault(bare, numbering), None if is_right(bare, numbering) else "tie")
        self.assertGreater(right, 20)

    def test_great_trees(self):
        for bare in great_trees():
            ties = [place for place in range(len(bare)) if place != bare.end]
            numbering = [None if place == bare.end else place for place in range(len(bare))]
            self.assertIsNone(numbering_fault(bare, numbering))
            numbering[ties[0]] = numbering[ties[-1]] = 200
            self.same(numbering_fault(bare, numbering), "tie")


class Least(Checks):

    def check(self, bare):
        numbering = least_numbering(bare)
        self.assertIsInstance(numbering, tuple)
        self.assertIsNone(numbering_fault(bare, numbering))
        numbers = [number for number in numbering if number is not None]
        self.assertLess(max(numbers, default=-1), tree_weight(bare).bit_length())
        return numbering

    def test_a_few(self):
        self.same(least_numbering(chain(1)), (None,))
        self.same(least_numbering(chain(2)), (0, None))
        self.same(sorted(self.check(star(6))[:-1]), [0, 1, 2, 3, 4])

    def test_all_small_trees(self):
        for bare in all_trees(6):
            self.assertTrue(is_right(bare, self.check(bare)))

    def test_made_and_great_trees(self):
        for seed in range(60):
            bare = made_tree(7 + seed, seed, (None, 1, 2, 4)[seed % 4])
            self.assertTrue(is_right(bare, self.check(bare)))
        for bare in great_trees():
            self.check(bare)

    def test_no_right_numbering_has_fewer_numbers(self):
        for bare in all_trees(6):
            fewer = tree_price(bare) - 2
            if len(bare) > 1 and fewer ** (len(bare) - 1) <= 300:
                for numbers in product(range(fewer), repeat=len(bare) - 1):
                    self.assertFalse(is_right(bare, [*numbers[:bare.end], None, *numbers[bare.end:]]))


class Turned(Checks):

    def test_a_few(self):
        self.assertTrue(tree_turned(chain(3), 0) == Bare([[1], [2], []], 0))
        self.assertTrue(tree_turned(chain(3), 1) == Bare([[], [0, 2], []], 1))
        self.assertTrue(tree_turned(chain(3), 2) == chain(3))
        self.assertTrue(tree_turned(chain(1), 0) == chain(1))
        self.same(numbering_turned(chain(3), (4, 7, None), 0), (None, 4, 7))
        self.same(numbering_turned(chain(3), [4, 7, None], 1), (4, None, 7))
        self.same(numbering_turned(chain(3), [4, 7, None], 2), (4, 7, None))
        self.same(numbering_turned(chain(1), [None], 0), (None,))

    def ties(self, bare, numbering):
        """The ties as (couple of places, number)."""
        return sorted((tuple(sorted((place, after_of(bare, place)))), numbering[place])
                      for place in range(len(bare)) if place != bare.end)

    def test_all_small_trees(self):
        for seed, bare in enumerate(list(all_trees(5)) + list(some_trees(7, 31, 6)) + [made_tree(30, k) for k in range(5)]):
            numbering = made_numbering(bare, Rule(seed), 200)
            least = least_numbering(bare)
            for end in range(len(bare)):
                turned = tree_turned(bare, end)
                self.same(turned.end, end)
                self.assertIsNone(check_in_tree(turned))
                told = numbering_turned(bare, least, end)
                self.assertIsNone(numbering_fault(turned, told))
                self.same(self.ties(turned, told), self.ties(bare, least))
                self.assertTrue(tree_turned(turned, bare.end) == bare)
                self.same(numbering_turned(turned, told, bare.end), least)
                if is_right(bare, numbering):
                    self.same(self.ties(turned, numbering_turned(bare, numbering, end)), self.ties(bare, numbering))

    def test_great_trees(self):
        for bare in great_trees():
            least = least_numbering(bare)
            for end in (0, 57, len(bare) - 1):
                self.assertIsNone(numbering_fault(tree_turned(bare, end), numbering_turned(bare, least, end)))

    def test_errors(self):
        for place in NO_PLACES:
            self.fails(NoPlace(place), tree_turned, chain(3), place)
            self.fails(NoPlace(place), numbering_turned, chain(3), (0, 1, None), place)
            self.fails(BadNumbering("form"), numbering_turned, chain(3), (0, 1, 2), place)
            self.fails(BadNumbering("tie"), numbering_turned, chain(3), (0, 0, None), place)
        self.fails(NoPlace(3), tree_turned, tree_of([1, 2]), 3)

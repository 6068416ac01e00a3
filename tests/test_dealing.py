"""[8.1]: binary positions dealt out."""

from itertools import product

from helpers import NO_NUMBERS, NO_SEQUENCES, Checks, Rule
from undocells.dealing import deal_out
from undocells.errors import BadNeeds


def can_be_dealt(total, needs):
    """Whether the binary positions of a total can be dealt so that each need is met, by trying all ways."""
    left = [need for need in needs if need > 0]
    if not left:
        return True
    if total < sum(left):
        return False
    position = 1 << total.bit_length() - 1
    return any(can_be_dealt(total ^ position, left[:at] + [need - position] + left[at + 1:])
               for at, need in enumerate(left))


def least_total(needs):
    total = 0
    while not can_be_dealt(total, list(needs)):
        total += 1
    return total


class Deals(Checks):

    def check(self, needs):
        total, shares = deal_out(needs)
        self.assertIsInstance(shares, tuple)
        self.same(len(shares), len(needs))
        taken = 0
        for need, share in zip(needs, shares):
            self.assertIs(type(share), int)
            self.assertGreaterEqual(share, need)
            self.same(share & taken, 0)
            taken |= share
        self.same(total, sum(shares))
        return total

    def test_a_few(self):
        self.same(deal_out(()), (0, ()))
        self.same(deal_out([]), (0, ()))
        self.same(deal_out([5]), (5, (5,)))
        self.same(self.check([1, 1]), 3)
        self.same(self.check((1, 1, 1)), 7)
        self.same(self.check([1, 2]), 3)
        self.same(self.check([2, 2]), 6)
        self.same(self.check([3, 3]), 7)
        self.same(self.check([3, 3, 1]), 13)

    def test_the_least_of_all_deals_by_trying_all(self):
        for many, most in ((1, 20), (2, 12), (3, 7), (4, 4)):
            for needs in product(range(1, most + 1), repeat=many):
                self.same(self.check(needs), least_total(needs))

    def test_the_order_of_the_needs_changes_no_total(self):
        for seed in range(60):
            rule = Rule(seed)
            needs = [1 + rule.below(1 << rule.below(9)) for _ in range(5)]
            total = self.check(needs)
            self.same(self.check(needs[::-1]), total)
            self.same(self.check(sorted(needs)), total)

    def test_no_total_below_is_enough_for_more_needs(self):
        for seed in range(25):
            rule = Rule(seed)
            needs = [1 + rule.below(6) for _ in range(5)]
            self.same(self.check(needs), least_total(needs))

    def test_200_needs_and_201(self):
        self.same(self.check([1] * 200), 2 ** 200 - 1)
        self.fails(BadNeeds(-1), deal_out, [1] * 201)
        self.fails(BadNeeds(-1), deal_out, [None] * 201)
        # the greatest needs: each takes one of 199 positions above 2 ** 199, and the last one the rest of its own
        self.check([2 ** 200 - 1] * 200)
        self.check([2 ** k for k in range(200)])
        self.same(self.check([2 ** k for k in range(200)]), 2 ** 200 - 1)

    def test_great_needs(self):
        self.same(self.check([2 ** 200 - 1]), 2 ** 200 - 1)
        self.same(self.check([2 ** 199, 2 ** 199]), 2 ** 200 + 2 ** 199)
        self.fails(BadNeeds(0), deal_out, [2 ** 200])
        self.fails(BadNeeds(2), deal_out, (1, 2 ** 200 - 1, 2 ** 200, 0))

    def test_errors(self):
        for thing in NO_SEQUENCES:
            self.fails(BadNeeds(-1), deal_out, thing)
        for thing in (0, -1, *NO_NUMBERS):
            self.fails(BadNeeds(0), deal_out, [thing])
            self.fails(BadNeeds(2), deal_out, (1, 2, thing, thing))

    def test_what_was_passed_stays(self):
        needs = [3, 1, 2]
        deal_out(needs)
        self.same(needs, [3, 1, 2])

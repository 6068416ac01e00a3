"""[11.4]: regions of code, and what is good code."""

from itertools import product

from codes import good_code, told_fault, told_regions
from helpers import Checks
from undocells.codejudge import code_fault, regions_of
from undocells.coderows import Code

ONE, HOLDS = ("number", 1), (("number", 1), 1)
Z = ("zero", 0)


def judged(rows):
    return code_fault(Code(2, ("x",), 2, rows))


class Regions(Checks):

    def test_by_hand(self):
        rows = [Z, ("enter", 0), Z, ("leave", 0), Z, ("enter", 5), ("enter", 2), Z, ("leave", 1), ("leave", 1), Z]
        self.same(regions_of(Code(2, (), 1, rows)), (-1, 0, 0, 0, -1, 5, 2, 2, 2, -1, -1))
        self.same(regions_of(Code(2, (), 1, ())), ())


class Faults(Checks):

    def test_every_code_of_few_rows(self):
        some = [Z, ("enter", 0), ("enter", 1), ("leave", 0), ("leave", 1), ("call", 0), ("back", 1), ("swap", 0, 0)]
        for many, alphabet in ((0, some), (1, some), (2, some), (3, some), (4, some), (5, some[1:6])):
            for rows in product(alphabet, repeat=many):
                code = Code(2, ("x",), 2, rows)
                self.same(regions_of(code), told_regions(rows))
                self.same(code_fault(code), told_fault(rows))

    def test_every_code_of_few_forks(self):
        some = [("enter", 0), ("leave", 0)]
        some += [(word, HOLDS, at) for word in ("go", "come") for at in range(3)]
        good = 0
        for many in (2, 3, 4):
            for rows in product(some, repeat=many):
                fault = told_fault(rows)
                self.same(judged(rows), fault)
                good += fault is None
        self.assertGreater(good, 4)

    def test_good_codes_and_one_row_of_them_changed(self):
        words = {}
        for seed in range(250):
            code = good_code(seed)
            self.same(code_fault(code), None)
            self.same(regions_of(code), told_regions(code.rows))
            others = (("swap", 0, 0), ("add", 0, ("same",), (("slot", 0),)), ("enter", 0), ("leave", 0), ("leave", 1),
                      ("call", 0), ("back", 1), ("call", 2), ("go", HOLDS, 2), ("come", HOLDS, 1), ("go", HOLDS, 10 ** 20))
            for at in range(len(code)):
                for other in others:
                    rows = list(code.rows)
                    rows[at] = other
                    fault = code_fault(Code(code.width, code.names, code.slots, rows))
                    self.same(fault, told_fault(rows))
                    if fault:
                        words[fault[1]] = words.get(fault[1], 0) + 1
        self.assertGreater(min(words.get(word, 0) for word in ("own", "region", "partner")), 100)

    def test_own(self):
        for row in (("add", 0, ("same",), (("slot", 0),)), ("sub", 1, ("+",), (ONE, ("slot", 1))), ("swap", 1, 1),
                    ("xor", 0, ("pick",), (ONE, ONE, ("slot", 0)))):
            self.same(judged([Z, row]), (1, "own"))
            self.same(judged([row, ("leave", 0), row]), (0, "own"))
            self.same(judged([("leave", 0), row]), (0, "region"))
        for row in (("add", 0, ("same",), (("slot", 1),)), ("sub", 1, ("+",), (("number", 1), ("slot", 0))), ("swap", 1, 0),
                    Z, ("go", (("slot", 0), 1), 1)):
            other = ("come", HOLDS, 0) if row[0] == "go" else Z
            self.same(judged([row, other]), None)

    def test_region(self):
        e0, l0, e1, l1 = ("enter", 0), ("leave", 0), ("enter", 1), ("leave", 1)
        for rows, told in (
                ([Z, e0, l0], (1, "region")), ([e1, l1], (0, "region")), ([e0, l0, e0, l0], (2, "region")),
                ([e0, l0, Z, e1, l1], (3, "region")), ([e0, e1, l1], (0, "region")), ([e0, l1], (0, "region")),
                ([e0], (0, "region")), ([e0, Z], (0, "region")), ([l0], (0, "region")), ([e0, l0, l0], (2, "region")),
                ([e0, l0, Z, l1], (3, "region")), ([e0, ("call", 0), l0], (1, "region")),
                ([("call", 0)], (0, "region")), ([e0, l0, ("back", 1)], (2, "region")),
                ([e0, l0, e1, ("call", 1), l1], (3, "region")), ([e0, l0, e1, ("back", 0), l1], None),
                ([e0, l0, e1, l1, ("call", 0), ("back", 1)], None), ([e0, l0, ("enter", 2), ("leave", 2)], (2, "region"))):
            self.same(judged(rows), told)

    def test_partner(self):
        e0, l0 = ("enter", 0), ("leave", 0)
        go, come = (lambda to: ("go", HOLDS, to)), (lambda at: ("come", HOLDS, at))
        for rows, told in (
                ([go(1), come(0)], None), ([come(1), go(0)], None), ([go(0)], (0, "partner")), ([come(0)], (0, "partner")),
                ([go(1)], (0, "partner")), ([go(2), come(0)], (0, "partner")), ([go(1), go(0)], (0, "partner")),
                ([come(1), come(0)], (0, "partner")), ([go(1), come(2), Z], (0, "partner")),
                ([Z, go(2), come(0)], (1, "partner")), ([e0, go(3), l0, come(1)], (1, "partner")),
                ([e0, go(2), come(1), l0], None), ([e0, l0, go(3), come(2)], None),
                ([go(1), come(0), come(0)], (2, "partner")), ([go(1), come(0), go(1)], (2, "partner")),
                ([e0, Z, l0, go(1)], (3, "partner"))):
            self.same(judged(rows), told)

    def test_of_two_faults_the_first_row_is_told(self):
        own = ("swap", 0, 0)
        self.same(judged([("call", 0), own]), (0, "region"))
        self.same(judged([("go", HOLDS, 5), ("leave", 0)]), (0, "partner"))
        self.same(judged([own, ("go", HOLDS, 5)]), (0, "own"))
        self.same(judged([("enter", 0), ("go", HOLDS, 9), own]), (0, "region"))
        self.same(judged([("enter", 0), ("go", HOLDS, 9), own, ("leave", 0)]), (1, "partner"))

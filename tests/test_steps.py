"""[3.1]: steps."""

from helpers import NO_NUMBERS, NO_SEQUENCES, Checks
from undocells.errors import BadStep
from undocells.steps import Step

ONE = ("number", 1)


class Steps(Checks):

    def test_attributes(self):
        step = Step(("pick",), [("place", 5), ("given", 0), ("place", 2)])
        self.same((step.kind, step.operands, step.befores),
                  (("pick",), (("place", 5), ("given", 0), ("place", 2)), (2, 5)))

    def test_numbers_of_a_table_become_a_tuple(self):
        numbers = [4, 5]
        step = Step(("table", numbers), (("given", 0),))
        numbers[0] = 9
        self.same(step.kind, ("table", (4, 5)))

    def test_later_changes_have_no_effect(self):
        operands = [("place", 1), ("place", 0)]
        step = Step(("+",), operands)
        operands.clear()
        self.same(step.operands, (("place", 1), ("place", 0)))

    def test_befores_are_unlike_and_ascending(self):
        for operands, befores in ((((("place", 3), ("place", 3))), (3,)), ((("place", 9), ("place", 0)), (0, 9)),
                                  ((("given", 3), ("number", 9)), ()), ((("number", 4), ("place", 199)), (199,)),
                                  ((("place", 8), ("place", 1)), (1, 8)), ((("place", 64), ("place", 33)), (33, 64))):
            self.same(Step(("*",), operands).befores, befores)

    def test_edges_of_operands(self):
        for operand in (("place", 0), ("place", 199), ("given", 0), ("given", 5), ("number", 0), ("number", 4095)):
            self.same(Step(("same",), (operand,)).operands, (operand,))
        for operand in (("place", -1), ("place", 200), ("given", -1), ("given", 6), ("number", -1), ("number", 4096)):
            self.fails(BadStep(), Step, ("same",), (operand,))

    def test_no_operands(self):
        wrong = [(word, thing) for word in ("place", "given", "number") for thing in NO_NUMBERS]
        wrong += [(), ("place",), ("place", 1, 2), ["place", 1], ("name", 1), (None, 1), (1, 1), ([], 1), "place", 1, None,
                  ("", 0), (("place",), 1)]
        for operand in wrong:
            self.fails(BadStep(), Step, ("same",), (operand,))
            self.fails(BadStep(), Step, ("+",), [ONE, operand])

    def test_as_many_operands_as_the_kind_wants(self):
        for kind, many in ((("same",), 1), (("<<", 2), 1), (("table", (1,)), 1), (("+",), 2), (("<",), 2), (("pick",), 3)):
            for count in range(5):
                if count == many:
                    self.same(Step(kind, (ONE,) * count).operands, (ONE,) * count)
                else:
                    self.fails(BadStep(), Step, kind, (ONE,) * count)
            for thing in NO_SEQUENCES:
                self.fails(BadStep(), Step, kind, thing)

    def test_no_kinds(self):
        for kind in (None, "+", ["+"], (), ("<<", 4096), ("table", (1, 2, 3)), ("plus",), ("<<",), ("+", 1), ("<<", True)):
            self.fails(BadStep(), Step, kind, (ONE,))
            self.fails(BadStep(), Step, kind, None)

    def test_equality(self):
        one = Step(("table", [1, 2]), [("place", 3)])
        self.assertTrue(one == Step(("table", (1, 2)), (("place", 3),)))
        self.assertFalse(one != Step(("table", (1, 2)), (("place", 3),)))
        for other in (Step(("table", (1, 3)), (("place", 3),)), Step(("table", (1, 2)), (("place", 4),)), None, 1,
                      ("table", (1, 2))):
            self.assertFalse(one == other)
            self.assertTrue(one != other)

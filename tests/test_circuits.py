"""[13.7] to [13.9]: placed rows as gates on wires, run, cut and turned about."""

from helpers import NO_NUMBERS, NO_SEQUENCES, Checks, Rule, kept_row
from test_cells import NO_COUPLES, placed_by
from test_emit import PLUS
from undocells.cells import cells_needed, holdings_of, placed_row
from undocells.circuits import (Circuit, circuit_of, cut_circuit, first_bits, run_circuit, turned_circuit, words_on)
from undocells.errors import BadBits, BadDone, BadInputs, BadPlaced, BadWay
from undocells.gates import back_gates, bits_along, bits_of_word, check_gates, run_gates
from undocells.stepgates import helper_count, most_gates, step_gates
from undocells.steps import Step
from undocells.webs import Web, web_worth, web_worths
from webs import inputs_for, web_by


def circuits(times):
    """(web, placed row, its holdings, circuit) by a rule; every third row is kept."""
    for seed in range(times):
        web, rule = web_by(seed, width=1 + seed % 4), Rule(seed + 900)
        if seed % 3 == 0:
            placed = placed_row(web.bare, kept_row(web.bare, rule))
        else:
            cells = rule.one_of(((0, 1, 2, 3, 4), (0, 9, 3, 7), tuple(range(10)), (12, 0, 5)))
            placed, _ = placed_by(web.bare, rule, rule.one_of((0, 3, 12, 20)), cells)
        yield web, placed, list(holdings_of(web.bare, placed)), circuit_of(web, placed)


def told_bits(web, holding, inputs, wires, cells):
    """The bits that stand behind a block."""
    worths = web_worths(web, inputs)
    words = list(inputs) + [0] * cells
    for place, cell in holding:
        words[web.many + cell] = worths[place]
    bits = [bit for word in words for bit in bits_of_word(word, web.width)]
    return tuple(bits + [0] * (wires - len(bits)))


class Circuits(Checks):

    def test_a_result(self):
        gates = [("not", 0)]
        circuit = Circuit(3, 2, 4, 5, gates, "ends", None)
        self.assertIs(circuit.gates, gates)
        self.same((circuit.width, circuit.many, circuit.cells, circuit.helpers, circuit.ends, circuit.result),
                  (3, 2, 4, 5, "ends", None))
        self.same((circuit.wires, circuit.gates_back), (23, (("not", 0),)))
        self.same((circuit.given_wires(0), circuit.given_wires(1)), ((0, 1, 2), (3, 4, 5)))
        self.same((circuit.cell_wires(0), circuit.cell_wires(3)), ((6, 7, 8), (15, 16, 17)))
        self.same(circuit.helper_wires(), (18, 19, 20, 21, 22))
        self.same(Circuit(1, 0, 0, 0, (), (), None).wires, 0)
        self.same(Circuit(1, 0, 0, 0, (), (), None).helper_wires(), ())

    def test_equal_circuits(self):
        parts = (3, 2, 4, 5, (("not", 0),), (1,), 2)
        one = Circuit(*parts)
        self.assertTrue(one == Circuit(*parts))
        self.assertFalse(one != Circuit(*parts))
        for at, other in enumerate((4, 3, 5, 6, (("not", 1),), (0,), None)):
            changed = Circuit(*parts[:at], other, *parts[at + 1:])
            self.assertFalse(one == changed)
            self.assertTrue(one != changed)
        self.assertFalse(one == parts)

    def test_the_wires_and_blocks(self):
        for web, placed, along, circuit in circuits(150):
            helpers = max(helper_count(step.kind, web.width) for step in web.steps)
            self.same((circuit.width, circuit.many, circuit.cells, circuit.helpers),
                      (web.width, web.many, cells_needed(placed), helpers))
            self.assertEqual(circuit.wires, web.width * (web.many + circuit.cells) + helpers)
            self.same(check_gates(circuit.gates, circuit.wires), circuit.gates)
            self.assertEqual(len(circuit.ends), len(placed))
            self.same(circuit.result, dict(along[-1]).get(web.end))
            self.same(circuit.gates_back, circuit.gates[::-1])
            last = 0
            for at, ((place, cell), end) in enumerate(zip(placed, circuit.ends)):
                self.assertLessEqual(end - last, most_gates(web.steps[place].kind, web.width))
                # the block is that of the step over the wires of the holding ahead of it, filling and clearing alike
                where = dict(along[at])
                operands = [circuit.cell_wires(where[number]) if name == "place" else circuit.given_wires(number)
                            if name == "given" else ["on" if number >> k & 1 else "off" for k in range(web.width)]
                            for name, number in web.steps[place].operands]
                kind = web.steps[place].kind
                self.same(circuit.gates[last:end], step_gates(
                    kind, web.width, operands, circuit.cell_wires(cell),
                    circuit.helper_wires()[:helper_count(kind, web.width)]))
                last = end
            self.assertEqual(last, len(circuit.gates))

    def test_the_words_behind_each_block(self):
        for seed, (web, placed, along, circuit) in enumerate(circuits(200)):
            inputs = inputs_for(web, seed)
            first = first_bits(circuit, inputs)
            reached = list(bits_along(first, circuit.gates))
            for at, end in enumerate((0, *circuit.ends)):
                bits = told_bits(web, along[at], inputs, circuit.wires, circuit.cells)
                self.same(reached[end], bits)
                worths = web_worths(web, inputs)
                where = {cell: place for place, cell in along[at]}
                self.same(words_on(circuit, list(bits)), (
                    inputs, tuple(worths[where[cell]] if cell in where else 0 for cell in range(circuit.cells)),
                    (0,) * circuit.helpers))
            told = None if circuit.result is None else web_worth(web, inputs)
            self.same(run_circuit(circuit, list(inputs)), told)

    def test_rows_that_end_in_nothing_at_the_end_and_anywhere(self):
        for placed, result, told in (((), None, None), (((0, 0), (0, 0)), None, None), (((0, 3),), None, None),
                                     (((0, 3), (1, 0), (2, 5)), 5, True), (((0, 3), (1, 0), (2, 5), (1, 0), (0, 3)), 5, True),
                                     (((0, 0), (1, 1), (2, 2), (2, 2)), None, None)):
            circuit = circuit_of(PLUS, list(placed))
            self.same(circuit.result, result)
            self.same(run_circuit(circuit, (3, 9)), web_worth(PLUS, (3, 9)) if told else None)
        self.same((circuit_of(PLUS, ()).gates, circuit_of(PLUS, ()).ends, circuit_of(PLUS, ()).cells), ((), (), 0))

    def test_helpers_are_as_many_as_the_greatest_of_all_steps(self):
        # the multiplication is never moved, but its helpers are there
        self.same(circuit_of(PLUS, ((0, 0),)).helpers, 8)
        web = Web(5, 1, [Step(("^",), [("given", 0), ("number", 3)])])
        self.same(circuit_of(web, ((0, 0),)).helpers, 0)

    def test_it_raises_as_holdings_of(self):
        for placed in (*NO_SEQUENCES, ((0, 0),) * 20001):
            self.fails(BadPlaced(-1, "form"), circuit_of, PLUS, placed)
        for bad in NO_COUPLES:
            self.fails(BadPlaced(1, "form"), circuit_of, PLUS, [(0, 0), bad])
        self.fails(BadPlaced(0, "befores"), circuit_of, PLUS, [(1, 0)])
        self.fails(BadPlaced(1, "cell"), circuit_of, PLUS, [(0, 0), (1, 0)])

    def test_widths_1_and_12(self):
        for width in (1, 12):
            web = Web(width, 2, [Step(("*",), [("given", 0), ("given", 1)]), Step(("<",), [("place", 0), ("given", 1)]),
                                 Step(("pick",), [("place", 1), ("place", 0), ("number", 4095)])])
            circuit = circuit_of(web, placed_row(web.bare, (0, 1, 2, 1, 0)))
            for inputs in ((0, 0), (1, 1), (1, 0), (2 ** width - 1, 2 ** width - 1), (77 % 2 ** width, 99 % 2 ** width)):
                self.same(run_circuit(circuit, inputs), web_worth(web, inputs))


class Bits(Checks):

    def setUp(self):
        self.circuit = circuit_of(PLUS, ((0, 0), (1, 1)))

    def test_first_bits(self):
        self.same(first_bits(self.circuit, (5, 8)), (1, 0, 1, 0, 0, 0, 0, 1) + (0,) * 16)
        self.same(first_bits(Circuit(3, 0, 1, 2, (), (), None), []), (0,) * 5)

    def test_wrong_inputs(self):
        for call in (first_bits, run_circuit, lambda circuit, inputs: cut_circuit(circuit, inputs, None, None)):
            for inputs in (*NO_SEQUENCES, (1,), (1, 2, 3)):
                self.fails(BadInputs(-1, "many"), call, self.circuit, inputs)
            for word in (16, -1, *NO_NUMBERS):
                self.fails(BadInputs(1, "word"), call, self.circuit, (0, word))
                self.fails(BadInputs(0, "word"), call, self.circuit, [word, word])

    def test_wrong_bits(self):
        for bits in (*NO_SEQUENCES, (0,) * 23, (0,) * 25, (0,) * 23 + (2,), (0,) * 23 + (True,), [0] * 23 + [None]):
            self.fails(BadBits(), words_on, self.circuit, bits)
        self.same(words_on(self.circuit, (1,) * 24), ((15, 15), (15, 15), (1,) * 8))


class Cuts(Checks):

    def test_stopped_anywhere_it_is_led_both_ways(self):
        for seed, (web, placed, along, circuit) in enumerate(circuits(60)):
            inputs = inputs_for(web, seed)
            first = first_bits(circuit, inputs)
            last = told_bits(web, along[-1], inputs, circuit.wires, circuit.cells)
            many = len(circuit.gates)
            for done in {0, 1, 2, many // 3, many // 2, many - 1, many, *circuit.ends[:4]}:
                if 0 <= done <= many:
                    self.same(cut_circuit(circuit, inputs, done, "back"), first)
                    self.same(cut_circuit(circuit, list(inputs), done, "on"), last)
            self.same(run_gates(last, circuit.gates_back), first)

    def test_wrong_arguments_in_their_order(self):
        circuit = circuit_of(PLUS, ((0, 0), (1, 1)))
        many = len(circuit.gates)
        for done in (-1, many + 1, *NO_NUMBERS):
            self.fails(BadDone(), cut_circuit, circuit, (1, 2), done, None)
        for way in ("", "Back", "BACK", 1, -1, None, True, ["on"], ("back",), b"on"):
            self.fails(BadWay(), cut_circuit, circuit, (1, 2), many, way)

    def test_a_cut_runs_back_over_just_these_gates(self):
        # gates that are no way back of one another: only the same ones undo them
        circuit = Circuit(1, 1, 1, 0, (("not", 0), ("flip", 0, 1), ("not", 1)), (1, 3), 0)
        for done in range(4):
            self.same(cut_circuit(circuit, (0,), done, "back"), (0, 0))
            self.same(cut_circuit(circuit, (0,), done, "on"), (1, 0))
            self.same(cut_circuit(circuit, (1,), done, "on"), (0, 1))


class Turned(Checks):

    def test_blocks_in_the_other_order_with_their_ends(self):
        for seed, (web, placed, along, circuit) in enumerate(circuits(100)):
            turned = turned_circuit(circuit)
            self.same((turned.width, turned.many, turned.cells, turned.helpers, turned.result),
                      (circuit.width, circuit.many, circuit.cells, circuit.helpers, None))
            self.same(turned.gates, back_gates(circuit.gates))
            blocks = [circuit.gates[first:end] for first, end in zip((0, *circuit.ends), circuit.ends)]
            self.same([turned.gates[first:end] for first, end in zip((0, *turned.ends), turned.ends)],
                      [block[::-1] for block in blocks[::-1]])
            inputs = inputs_for(web, seed)
            last = run_gates(first_bits(circuit, inputs), circuit.gates)
            self.same(run_gates(last, turned.gates), first_bits(circuit, inputs))
            self.same(turned_circuit(turned).gates, circuit.gates)
            self.same(turned_circuit(turned).ends, circuit.ends)
            self.same(run_circuit(turned, inputs), None)

    def test_without_blocks_and_with_empty_ones(self):
        self.same(turned_circuit(Circuit(1, 0, 0, 0, (), (), None)).ends, ())
        gates = (("not", 0), ("not", 1), ("not", 0))
        turned = turned_circuit(Circuit(1, 1, 1, 0, gates, (0, 2, 2, 3), 0))
        self.same((turned.gates, turned.ends), (gates[::-1], (1, 1, 3, 3)))

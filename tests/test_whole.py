"""[0.2], [0.5], [0.6]: what holds of the whole program, from the text to the gates."""

import contextlib
import io
import re
from pathlib import Path

from helpers import Checks, Rule, chain
from programs import made_text, some_inputs
from test_compiling import TEXT, texts
from trees import all_trees, made_tree
from undocells import cells, coderows, emit, tables, trails, turnabout
from undocells.adders import add_gates
from undocells.bench import Bench
from undocells.books import book_against, book_fault
from undocells.bwcode import code_of
from undocells.bwprogs import Program
from undocells.bwread import read_program
from undocells.bwrun import run_both, run_traced
from undocells.circuits import Circuit, circuit_of, cut_circuit, first_bits, run_circuit, turned_circuit, words_on
from undocells.closed import closed_lot, lot_fault
from undocells.coderows import Code
from undocells.compiling import Made, compile_all
from undocells.cuts import cut_run
from undocells.cutting import LAYERS, cut_made, many_steps, words_cut
from undocells.edits import edit_back, edited_text
from undocells.emit import placed_of_program, run_row
from undocells.errors import Enough, HasRow, UndoError
from undocells.flows import Part
from undocells.freeplaces import check_free, free_peak, free_price, free_row, used_free
from undocells.games import Game
from undocells.gates import (back_gates, bits_along, check_bits, check_gates, count_gates, moved_gates, run_gates,
                             word_of_bits)
from undocells.hues import names_of
from undocells.moves import room_of, row_fault
from undocells.plain import plain_worth
from undocells.planner import great_cells
from undocells.readings import Reading
from undocells.rounds import rounds_of
from undocells.search import price_of
from undocells.states import MachineState, end_state, start_state, turned_state
from undocells.stepgates import step_gates
from undocells.steps import Step
from undocells.sums import Sum
from undocells.ties import least_numbering, numbering_fault, tree_price, tree_turned
from undocells.turnabout import turned_about
from undocells.webs import Web, web_worth


class FromTextToGates(Checks):

    def test_each_form_leads_to_the_inputs_the_result_and_empty_cells(self):
        rows = 0
        for text, width, web in texts(80):
            least = price_of(web.bare) if len(web) <= 8 else great_cells(web.bare)
            for room in sorted({least, least + 1, len(web)}):
                made = compile_all(text, width, room)
                self.same(row_fault(web.bare, made.row, room), None)
                self.assertLessEqual(len(made.statements.names) - web.many, room)
                joined = len({repr((step.kind, step.operands)) for step in web}) == len(web)
                if joined:
                    self.same(placed_of_program(web, made.statements), made.placed)
                for inputs in some_inputs(web.many, width, Rule(room), 2):
                    worth = plain_worth(made.reading, width, inputs)
                    self.same((web_worth(web, inputs), run_row(web, made.placed, inputs)), (worth, worth))
                    self.same(run_circuit(made.circuit, inputs), worth)
                    begin = inputs + (0,) * made.circuit.cells
                    last = list(begin)
                    last[web.many + made.circuit.result] = worth
                    last = tuple(last)
                    self.same(run_both(made.statements, width, begin), last)
                    self.same(run_both(turned_about(made.statements), width, last), begin)
                    on = cut_run(made.code, begin, len(made.row) // 2, 1)
                    self.assertTrue(on == end_state(made.code, last))
                    back = cut_run(made.code, begin, len(made.row) // 2, -1)
                    self.assertTrue(back == turned_state(start_state(made.code, begin)))
                    bits = cut_circuit(made.circuit, inputs, len(made.circuit.gates) // 2, "on")
                    self.same(words_on(made.circuit, bits),
                              (inputs, last[web.many:], (0,) * made.circuit.helpers))
                    self.same(run_gates(bits, turned_circuit(made.circuit).gates), first_bits(made.circuit, inputs))
                    rows += 1
        self.assertGreater(rows, 200)

    def test_the_price_of_a_programs_web_is_exact(self):
        many = 0
        for text, width, web in texts(120):
            if len(web) > 6:
                continue
            price = price_of(web.bare)
            self.same((rounds_of(web.bare), names_of(web.bare)), (price, price))
            made = compile_all(text, width, price)
            self.same(room_of(web.bare, made.row), price)
            if price > 1:
                self.same(lot_fault(web.bare, price - 1, closed_lot(web.bare, price - 1)), None)
                self.same(book_fault(web.bare, book_against(web.bare, price - 1), price - 1), None)
            self.fails(HasRow(price), closed_lot, web.bare, price)
            self.fails(Enough(price), book_against, web.bare, price)
            many += 1
        self.assertGreater(many, 20)

    def test_the_price_of_a_tree_is_one_more_than_the_fewest_numbers_whichever_place_is_its_end(self):
        for tree in list(all_trees(5)) + [made_tree(7, seed) for seed in range(6)]:
            price = price_of(tree)
            for end in range(len(tree)):
                turned = tree_turned(tree, end)
                self.same((price_of(turned), tree_price(turned)), (price, price))
                numbering = least_numbering(turned)
                self.same(numbering_fault(turned, numbering), None)
                self.assertEqual(len({number for number in numbering if number is not None}), price - 1)

    def test_an_edited_text_stays_the_same_program(self):
        bench = Bench(TEXT, 4, 6)
        for edit in (("rename", "f", "c", "cc"), ("split", "f", 0, 2), ("split", "f", 0, 1)):
            bench.put(edit)
            for inputs in some_inputs(2, 4, Rule(1), 4):
                worth = plain_worth(bench.made.reading, 4, inputs)
                for layer in LAYERS:
                    half = many_steps(bench.made, layer, inputs) // 2
                    told = cut_made(bench.made, layer, inputs, half, "on")
                    self.same((told[0], max(told[1])), (inputs, worth))
        bench.take_back()
        bench.take_back()
        bench.take_back()
        self.same(bench.text, TEXT)


class Objects(Checks):

    def things(self):
        """One object of each class that compares."""
        step = Step(("same",), [("number", 1)])
        web = Web(3, 0, [step])
        made = compile_all(TEXT, 3, 6)
        return [made.reading, Reading(()), step, web, web.bare, chain(2), Game(chain(2), 1), Sum(0, (), ()),
                Part((1, 1), (), ()), Program([("p", (), ())]), Code(3, (), 0, ()), MachineState(0, 1, (), ()),
                Circuit(3, 0, 0, 0, (), (), None), made, Made(None, None, None, None, None, None, None)]

    def test_objects_are_equal_to_their_like_alone(self):
        for at, one in enumerate(self.things()):
            for number, other in enumerate(self.things()):
                self.same((one == other, one != other), (at == number, at != number))
            for other in (None, 0, (), "", object()):
                self.same((one == other, one != other, other == one), (False, True, False))

    def test_each_made_thing_is_made_anew_and_alike(self):
        one, other = compile_all(TEXT, 3, 6), compile_all(TEXT, 3, 6)
        self.assertTrue(one == other)
        self.assertIsNot(one, other)
        for name in ("reading", "web", "row", "placed", "statements", "code", "circuit"):
            self.assertTrue(getattr(one, name) == getattr(other, name))

    def test_equal_arguments_always_give_equal_results(self):
        for seed in range(30):
            text = made_text(seed)
            told = []
            for _ in range(2):
                try:
                    made = compile_all(text, 4, 12)
                    inputs = (3,) * made.web.many
                    begin = inputs + (0,) * made.circuit.cells
                    told.append((made.row, made.placed, made.statements.routines, made.code.rows, made.circuit.gates,
                                 run_traced(made.statements, 4, begin), edited_text(text, ("span", 0, 0, "\n"))))
                except UndoError as error:
                    told.append((error.__class__, vars(error)))
            self.same(told[0], told[1])


class Passed(Checks):

    def calls(self):
        """(function, arguments) with lists wherever sequences may be passed."""
        web = Web(3, 2, [Step(("*",), [("given", 0), ("given", 1)]), Step(("+",), [("place", 0), ("number", 1)])])
        bare, placed = web.bare, [(0, 0), (1, 1), (0, 0)]
        program = read_program("routine e(a){a+=1;}routine p(x,y){call e(x);y^=x;}")
        trail = [("add", "w0", ("name", "w1")), ("holds", ("name", "w0"))]
        table, code = [1, 2, 0, None], code_of(program, 3)
        circuit, made = circuit_of(web, placed), compile_all(TEXT, 3, 6)
        gates, bits = [["not", 0], ["both", 0, 1, 2]], [0, 1, 1]
        yield from (
            (list_of(trails.trail_standings), (trail, 3, [1, 2])), (trails.trail_back, (trail,)),
            (trails.straight_program, (trail, 2)), (turnabout.turned_body, (list(program.routines[1][2]),)),
            (tables.check_table, (table, 2, 1)), (tables.turned_table, (table,)), (tables.rings_of, (table,)),
            (tables.chains_of, (table,)), (tables.exchanges_of, (table,)),
            (tables.exchanges_fault, (table, [(0, 1), (0, 2)])), (tables.program_of_table, (2, 1, table)),
            (cells.placed_row, (bare, [0, 1, 0])), (cells.placed_back, (placed,)), (cells.cells_needed, (placed, [(0, 4)])),
            (list_of(cells.holdings_of), (bare, placed, [])), (cells.placed_fault, (bare, placed, [(1, 7)])),
            (cells.last_holding, (bare, [(0, 1)], [(1, 7)])), (cells.end_cell, (bare, placed)),
            (emit.step_expression, (web.steps[1], [(0, 3)])), (emit.program_of_row, (web, [(0, 1)], 9, [(1, 7)])),
            (emit.words_held, (web, [1, 2], [(1, 0)], 2)), (emit.run_row, (web, placed, [3, 5])),
            (emit.placed_of_program, (web, emit.program_of_row(web, placed), [])),
            (coderows.operand_word, (("slot", 0), [1, 2], 3)), (coderows.test_holds, ((("slot", 0), 1), [1, 2], 3)),
            (Code, (3, ["x"], 1, [("zero", 0)], [[0, 1]])), (start_state, (code, [1, 2])), (end_state, (code, [1, 2])),
            (cut_run, (code, [1, 2], 3, -1)), (check_bits, (bits,)), (run_gates, (bits, gates)), (check_gates, (gates, 3)),
            (back_gates, (gates,)), (moved_gates, (gates, [5, 6, 7])), (list_of(bits_along), (bits, gates)),
            (count_gates, (gates,)), (word_of_bits, (bits,)), (add_gates, ([0, "on"], [1, 2], [3])),
            (step_gates, (("*",), 2, [[0, 1], [1, "on"]], [2, 3], [4, 5, 6, 7])),
            (step_gates, (("table", [1, 2]), 1, [[0]], [1], [2])), (circuit_of, (web, placed)),
            (first_bits, (circuit, [3, 5])), (words_on, (circuit, [0] * circuit.wires)), (run_circuit, (circuit, [3, 5])),
            (cut_circuit, (circuit, [3, 5], 2, "back")), (check_free, (bare, [0])), (used_free, (bare, [0])),
            (free_peak, (bare, [0], [0, 1, 0])), (free_price, (bare, [0])), (free_row, (bare, [0])),
            (edited_text, (TEXT, ["rename", "f", "c", "d"])), (edit_back, (TEXT, ["span", 0, 0, " "])),
            (many_steps, (made, "code", [1, 2])), (words_cut, (made, "code", [1, 2], 3)),
            (cut_made, (made, "row", [1, 2], 3, "on")))

    def test_nothing_that_is_passed_is_changed_and_tuples_are_returned(self):
        for call, arguments in self.calls():
            before = repr(arguments)
            told, again = call(*arguments), call(*arguments)
            self.same(repr(arguments), before)
            self.assertTrue(told == again)
            self.assertNotIsInstance(told, list)
            if isinstance(told, tuple):
                self.assertNotIn("[", repr(told))


def list_of(generator):
    """A function that returns all that a generator yields."""
    return lambda *arguments: tuple(generator(*arguments))


class Readme(Checks):

    def test_its_examples_run(self):
        text = (Path(__file__).resolve().parent.parent / "README.md").read_text()
        parts = re.findall(r"```python\n(.*?)```", text, re.S)
        self.assertGreater(len(parts), 3)
        with contextlib.redirect_stdout(io.StringIO()) as told:
            exec("\n".join(parts), {})
        self.assertIn("108", told.getvalue())

"""[0.2], [0.5], [0.6]: what holds of the whole program, from the text to the gates."""

import contextlib
import io
import re
from pathlib import Path

from helpers import Checks, Rule, chain
from programs import made_text, some_inputs
from test_compiling import TEXT, texts
from trees import all_trees, made_tree
from undocells.bench import Bench
from undocells.books import book_against, book_fault
from undocells.bwprogs import Program
from undocells.bwrun import run_both, run_traced
from undocells.circuits import Circuit, cut_circuit, first_bits, run_circuit, turned_circuit, words_on
from undocells.closed import closed_lot, lot_fault
from undocells.coderows import Code
from undocells.compiling import Made, compile_all
from undocells.cuts import cut_run
from undocells.cutting import LAYERS, cut_made, many_steps
from undocells.edits import edited_text
from undocells.emit import placed_of_program, run_row
from undocells.errors import Enough, HasRow, UndoError
from undocells.flows import Part
from undocells.gates import run_gates
from undocells.games import Game
from undocells.hues import names_of
from undocells.moves import room_of, row_fault
from undocells.plain import plain_worth
from undocells.planner import great_cells
from undocells.readings import Reading
from undocells.rounds import rounds_of
from undocells.search import price_of
from undocells.states import MachineState, end_state, start_state, turned_state
from undocells.steps import Step
from undocells.sums import Sum
from undocells.ties import least_numbering, numbering_fault, tree_price, tree_turned
from undocells.turnabout import turned_about
from undocells.webs import Web, web_worth


class FromTextToGates(Checks):

    def test_each_form_leads_to_the_inputs_the_result_and_empty_cells(self):
        rows = 0
        for text, width, web in texts(80):
            least = price_of(web.bare) if len(web) <= 8 else great_cells(web.bare)
            for room in sorted({least, least + 1, len(web)}):
                made = compile_all(text, width, room)
                self.same(row_fault(web.bare, made.row, room), None)
                self.assertLessEqual(len(made.statements.names) - web.many, room)
                joined = len({repr((step.kind, step.operands)) for step in web}) == len(web)
                if joined:
                    self.same(placed_of_program(web, made.statements), made.placed)
                for inputs in some_inputs(web.many, width, Rule(room), 2):
                    worth = plain_worth(made.reading, width, inputs)
                    self.same((web_worth(web, inputs), run_row(web, made.placed, inputs)), (worth, worth))
                    self.same(run_circuit(made.circuit, inputs), worth)
                    begin = inputs + (0,) * made.circuit.cells
                    last = list(begin)
                    last[web.many + made.circuit.result] = worth
                    last = tuple(last)
                    self.same(run_both(made.statements, width, begin), last)
                    self.same(run_both(turned_about(made.statements), width, last), begin)
                    on = cut_run(made.code, begin, len(made.row) // 2, 1)
                    self.assertTrue(on == end_state(made.code, last))
                    back = cut_run(made.code, begin, len(made.row) // 2, -1)
                    self.assertTrue(back == turned_state(start_state(made.code, begin)))
                    bits = cut_circuit(made.circuit, inputs, len(made.circuit.gates) // 2, "on")
                    self.same(words_on(made.circuit, bits),
                              (inputs, last[web.many:], (0,) * made.circuit.helpers))
                    self.same(run_gates(bits, turned_circuit(made.circuit).gates), first_bits(made.circuit, inputs))
                    rows += 1
        self.assertGreater(rows, 200)

    def test_the_price_of_a_programs_web_is_exact(self):
        many = 0
        for text, width, web in texts(120):
            if len(web) > 6:
                continue
            price = price_of(web.bare)
            self.same((rounds_of(web.bare), names_of(web.bare)), (price, price))
            made = compile_all(text, width, price)
            self.same(room_of(web.bare, made.row), price)
            if price > 1:
                self.same(lot_fault(web.bare, price - 1, closed_lot(web.bare, price - 1)), None)
                self.same(book_fault(web.bare, book_against(web.bare, price - 1), price - 1), None)
            self.fails(HasRow(price), closed_lot, web.bare, price)
            self.fails(Enough(price), book_against, web.bare, price)
            many += 1
        self.assertGreater(many, 20)

    def test_the_price_of_a_tree_is_one_more_than_the_fewest_numbers_whichever_place_is_its_end(self):
        for tree in list(all_trees(5)) + [made_tree(7, seed) for seed in range(6)]:
            price = price_of(tree)
            for end in range(len(tree)):
                turned = tree_turned(tree, end)
                self.same((price_of(turned), tree_price(turned)), (price, price))
                numbering = least_numbering(turned)
                self.same(numbering_fault(turned, numbering), None)
                self.assertEqual(len({number for number in numbering if number is not None}), price - 1)

    def test_an_edited_text_stays_the_same_program(self):
        bench = Bench(TEXT, 4, 6)
        for edit in (("rename", "f", "c", "cc"), ("split", "f", 0, 2), ("split", "f", 0, 1)):
            bench.put(edit)
            for inputs in some_inputs(2, 4, Rule(1), 4):
                worth = plain_worth(bench.made.reading, 4, inputs)
                for layer in LAYERS:
                    half = many_steps(bench.made, layer, inputs) // 2
                    told = cut_made(bench.made, layer, inputs, half, "on")
                    self.same((told[0], max(told[1])), (inputs, worth))
        bench.take_back()
        bench.take_back()
        bench.take_back()
        self.same(bench.text, TEXT)


class Objects(Checks):

    def things(self):
        """One object of each class that compares."""
        step = Step(("same",), [("number", 1)])
        web = Web(3, 0, [step])
        made = compile_all(TEXT, 3, 6)
        return [made.reading, Reading(()), step, web, web.bare, chain(2), Game(chain(2), 1), Sum(0, (), ()),
                Part((1, 1), (), ()), Program([("p", (), ())]), Code(3, (), 0, ()), MachineState(0, 1, (), ()),
                Circuit(3, 0, 0, 0, (), (), None), made, Made(None, None, None, None, None, None, None)]

    def test_objects_are_equal_to_their_like_alone(self):
        for at, one in enumerate(self.things()):
            for number, other in enumerate(self.things()):
                self.same((one == other, one != other), (at == number, at != number))
            for other in (None, 0, (), "", object()):
                self.same((one == other, one != other, other == one), (False, True, False))

    def test_each_made_thing_is_made_anew_and_alike(self):
        one, other = compile_all(TEXT, 3, 6), compile_all(TEXT, 3, 6)
        self.assertTrue(one == other)
        self.assertIsNot(one, other)
        for name in ("reading", "web", "row", "placed", "statements", "code", "circuit"):
            self.assertTrue(getattr(one, name) == getattr(other, name))

    def test_equal_arguments_always_give_equal_results(self):
        for seed in range(30):
            text = made_text(seed)
            told = []
            for _ in range(2):
                try:
                    made = compile_all(text, 4, 12)
                    inputs = (3,) * made.web.many
                    begin = inputs + (0,) * made.circuit.cells
                    told.append((made.row, made.placed, made.statements.routines, made.code.rows, made.circuit.gates,
                                 run_traced(made.statements, 4, begin), edited_text(text, ("span", 0, 0, "\n"))))
                except UndoError as error:
                    told.append((error.__class__, vars(error)))
            self.same(told[0], told[1])


class Readme(Checks):

    def test_its_examples_run(self):
        text = (Path(__file__).resolve().parent.parent / "README.md").read_text()
        parts = re.findall(r"```python\n(.*?)```", text, re.S)
        self.assertGreater(len(parts), 3)
        with contextlib.redirect_stdout(io.StringIO()) as told:
            exec("\n".join(parts), {})
        self.assertIn("108", told.getvalue())

"""[10.5] to [10.9]: placed rows as programs of the language of both ways, there and back."""

from bothways import name, number
from helpers import NO_NUMBERS, NO_SEQUENCES, Checks, Rule, kept_row
from test_cells import NO_COUPLES, placed_by, some_held
from undocells.bwprogs import Program
from undocells.bwrun import run_both
from undocells.bwtext import program_text
from undocells.cells import cells_needed, end_cell, placed_back, placed_row
from undocells.emit import placed_of_program, program_of_row, run_row, step_expression, words_held
from undocells.errors import (BadCells, BadHeld, BadInputs, BadPlaced, NoCell, NotARow, NotHeld)
from undocells.moves import room_of
from undocells.search import fewest_moves, price_of
from undocells.steps import Step
from undocells.turnabout import turned_about
from undocells.webs import Web, joined_steps, web_worth, web_worths
from webs import inputs_for, web_by

# w0 + w1, (it) * 3, pick of both and an input
PLUS = Web(4, 2, [Step(("+",), [("given", 0), ("given", 1)]), Step(("*",), [("place", 0), ("number", 3)]),
                  Step(("pick",), [("place", 1), ("place", 0), ("given", 1)])])


def placed_webs(times):
    """(web, placed row, held, holdings) by a rule, with cells in any order."""
    for seed in range(times):
        web, rule = web_by(seed), Rule(seed + 5000)
        cells = rule.one_of(((0, 1, 2, 3, 4), (0, 199, 3, 7), tuple(range(10)), (12, 0, 5)))
        held = some_held(web.bare, rule, cells) if seed % 2 else []
        placed, along = placed_by(web.bare, rule, rule.one_of((0, 3, 12, 25)), cells, held)
        yield web, placed, held, along


class Expressions(Checks):

    def test_each_operand_and_kind(self):
        holding = ((3, 0), (7, 199), (9, 12))
        for operand, told in ((("place", 3), name("c0")), (("place", 7), name("c199")), (("place", 9), name("c12")),
                              (("given", 0), name("i0")), (("given", 5), name("i5")), (("number", 0), number(0)),
                              (("number", 4095), number(4095))):
            self.same(step_expression(Step(("same",), [operand]), holding), told)
            self.same(step_expression(Step(("<<", 4), [operand]), list(holding)), ("op", ("<<", 4), (told,)))
            self.same(step_expression(Step(("table", [1, 2]), [operand]), holding), ("op", ("table", (1, 2)), (told,)))
            self.same(step_expression(Step(("-",), [operand, ("place", 3)]), holding), ("op", ("-",), (told, name("c0"))))
        self.same(step_expression(Step(("pick",), [("given", 1), ("place", 9), ("place", 9)]), holding),
                  ("op", ("pick",), (name("i1"), name("c12"), name("c12"))))

    def test_a_place_that_is_not_held(self):
        step = Step(("pick",), [("place", 3), ("place", 5), ("place", 4)])
        self.fails(NoCell(5), step_expression, step, ((3, 0),))
        self.fails(NoCell(3), step_expression, step, ())
        self.fails(NoCell(4), step_expression, step, ((3, 0), (5, 1)))


class Programs(Checks):

    def test_by_hand(self):
        program = program_of_row(PLUS, ((0, 1), (1, 0), (2, 2), (1, 0)))
        self.same(program_text(program), "routine made(i0,i1,c0,c1,c2){c1^=i0+i1;c0^=c1*3;c2^=pick(c0,c1,i1);c0^=c1*3;}")
        held = [(1, 4), (0, 1)]
        self.same(program_text(program_of_row(PLUS, [(2, 0)], 6, held)),
                  "routine made(i0,i1,c0,c1,c2,c3,c4,c5){c0^=pick(c4,c1,i1);}")
        self.same(program_of_row(PLUS, ()).routines, (("made", ("i0", "i1"), ()),))
        single = Web(3, 0, [Step(("same",), [("number", 9)])])
        self.same(program_text(program_of_row(single, [(0, 2)])), "routine made(c0,c1,c2){c2^=9;}")

    def test_each_move_is_a_statement_over_the_holding_ahead_of_it(self):
        for web, placed, held, along in placed_webs(200):
            program = program_of_row(web, placed, held=held)
            names = [f"i{k}" for k in range(web.many)] + [f"c{k}" for k in range(cells_needed(placed, held))]
            self.same([routine[:2] for routine in program.routines], [("made", tuple(names))])
            self.same(program.routines[0][2], tuple(
                ("xor", f"c{cell}", step_expression(web.steps[place], along[at]))
                for at, (place, cell) in enumerate(placed)))

    def test_the_words_behind_each_statement(self):
        for seed, (web, placed, held, along) in enumerate(placed_webs(300)):
            inputs = inputs_for(web, seed)
            cells = cells_needed(placed, held) + seed % 3
            program = program_of_row(web, placed, min(cells, 200), held)
            worths = web_worths(web, inputs)
            first = words_held(web, inputs, along[0], min(cells, 200))
            for many in range(len(placed) + 1):
                begun = Program([("made", program.names, program.routines[0][2][:many])])
                told = words_held(web, list(inputs), along[many], min(cells, 200))
                self.same(run_both(begun, web.width, first), told)
                where = {cell: place for place, cell in along[many]}
                self.same(told, inputs + tuple(worths[where[cell]] if cell in where else 0
                                               for cell in range(min(cells, 200))))

    def test_turned_about_it_is_the_program_of_the_row_turned_about(self):
        for web, placed, held, along in placed_webs(200):
            cells = min(200, cells_needed(placed, held) + 1)
            self.same(turned_about(program_of_row(web, placed, cells, held)).routines,
                      program_of_row(web, placed_back(placed), cells, along[-1]).routines)

    def test_how_many_cells_may_be_asked_for(self):
        placed, held = ((0, 3),), ((1, 6),)
        for cells in (7, 8, 199, 200):
            self.same(len(program_of_row(PLUS, placed, cells, held).names), 2 + cells)
        for cells in (6, 0, -1, 201, *[thing for thing in NO_NUMBERS if thing is not None]):
            self.fails(BadCells(-1), program_of_row, PLUS, placed, cells, held)
        self.same(len(program_of_row(PLUS, [(0, 199)], 200).names), 202)
        self.same(len(program_of_row(PLUS, [(0, 199)]).names), 202)
        self.fails(BadCells(-1), program_of_row, PLUS, [(0, 199)], 199)
        self.same(program_of_row(PLUS, (), 0).names, ("i0", "i1"))

    def test_rows_of_20000_placed_moves_and_one_more(self):
        program = program_of_row(PLUS, ((0, 0),) * 20000)
        self.same(run_both(program, 4, (3, 4, 0)), (3, 4, 0))
        self.same(len(program.routines[0][2]), 20000)
        self.same(placed_of_program(PLUS, program), ((0, 0),) * 20000)
        self.fails(BadPlaced(-1, "form"), program_of_row, PLUS, ((0, 0),) * 20001)

    def test_wrong_arguments_in_their_order(self):
        for held in NO_SEQUENCES:
            self.fails(BadHeld(-1), program_of_row, PLUS, None, 999, held)
        for bad in NO_COUPLES:
            self.fails(BadHeld(1), program_of_row, PLUS, None, 999, [(0, 0), bad])
            self.fails(BadPlaced(1, "form"), program_of_row, PLUS, [(0, 0), bad], 999)
        self.fails(BadPlaced(-1, "form"), program_of_row, PLUS, None, 999)
        self.fails(BadPlaced(0, "befores"), program_of_row, PLUS, [(1, 0)], 999)
        self.fails(BadPlaced(1, "cell"), program_of_row, PLUS, [(0, 0), (1, 0)], 999)
        for inputs in NO_SEQUENCES:
            self.fails(BadInputs(-1, "many"), words_held, PLUS, inputs, (), 0)
        self.fails(BadInputs(1, "word"), words_held, PLUS, (15, 16), (), 0)
        self.same(words_held(PLUS, [1, 2], (), 0), (1, 2))


class ReadBack(Checks):

    def test_the_program_of_any_row_reads_back_as_that_row(self):
        many = 0
        for web, placed, held, along in placed_webs(400):
            program = program_of_row(web, placed, held=held)
            told = placed_of_program(web, program, held)
            if len(joined_steps(web)[0]) == len(web):
                many += 1
                self.same(told, placed)
            # with equal steps at least the same program comes of it
            self.same(program_of_row(web, told, cells_needed(placed, held), held).routines, program.routines)
        self.assertGreater(many, 200)

    def test_the_least_place_that_fits(self):
        web = Web(2, 1, [Step(("+",), [("given", 0), ("number", 1)])] * 2
                  + [Step(("^",), [("place", 0), ("place", 1)])])
        program = program_of_row(web, [(1, 0), (0, 1), (1, 0)])
        # both times the least place that is not held fills; then what is held in the cell is cleared
        self.same(placed_of_program(web, program), ((0, 0), (1, 1), (0, 0)))
        self.same(placed_of_program(web, program, [(1, 0)]), ((1, 0), (0, 1), (1, 0)))
        self.same(placed_of_program(web, Program([("p", ("i0",), ())])), ())

    def test_the_last_routine_is_read(self):
        rest = program_of_row(PLUS, [(0, 0)]).routines[0][1:]
        program = Program([("e", ("x",), (("add", "x", number(1)),)), ("p", *rest)])
        self.same(placed_of_program(PLUS, program), ((0, 0),))

    def test_parameters_that_are_not_those_of_a_row(self):
        for names in ((), ("i0",), ("i1", "i0"), ("i0", "i1", "c1"), ("i0", "i1", "c0", "c2"), ("c0", "i0", "i1"),
                      ("i0", "i1", "i2"), ("i0", "i1", "c00"), ("x", "y"), ("i0", "i1", "c1", "c0")):
            self.fails(NotARow(-1), placed_of_program, PLUS, Program([("p", names, ())]))
        for many in (0, 1, 200, 201):
            names = ("i0", "i1", *[f"c{k}" for k in range(many)])
            program = Program([("p", names, (("add", "i0", number(1)),))])
            self.fails(NotARow(-1 if many == 201 else 0), placed_of_program, PLUS, program)
        free = Web(1, 0, [Step(("same",), [("number", 0)])])
        self.fails(NotARow(-1), placed_of_program, free, Program([("p", tuple(f"c{k}" for k in range(201)), ())]))

    def test_statements_that_are_no_moves(self):
        add = ("op", ("+",), (name("i0"), name("i1")))
        times = ("op", ("*",), (name("c0"), number(3)))
        first = ("xor", "c0", add)
        bad = [("add", "c1", times), ("sub", "c1", times), ("swap", "c0", "c1"), ("if", number(1), (), (), number(1)),
               ("from", number(1), (), (), number(1)), ("local", "x", number(0), (), number(0)),
               ("xor", "i0", number(1)), ("xor", "c1", add), ("xor", "c1", number(3)), ("xor", "c1", name("c0")),
               ("xor", "c1", ("op", ("+",), (name("i1"), name("i0")))), ("xor", "c1", ("op", ("*",), (name("c2"), number(3)))),
               ("xor", "c1", ("op", ("*",), (name("c0"), number(19)))), ("xor", "c1", ("op", ("same",), (times,))),
               ("xor", "c1", ("op", ("*",), (("op", ("same",), (name("c0"),)), number(3)))),
               ("xor", "c1", ("op", ("*",), (add, number(3)))), ("xor", "c1", ("op", ("-",), (name("i0"), name("i1")))),
               ("xor", "c0", number(3)), ("xor", "c0", ("op", ("*",), (name("c1"), number(3))))]
        names = ("i0", "i1", "c0", "c1", "c2")
        for statement in bad:
            program = Program([("p", names, (first, statement, statement))])
            self.fails(NotARow(1), placed_of_program, PLUS, program)
        good = Program([("p", names, (first, ("xor", "c1", times), ("xor", "c1", times), first, ("xor", "c2", add)))])
        self.same(placed_of_program(PLUS, good), ((0, 0), (1, 1), (1, 1), (0, 0), (0, 2)))

    def test_an_input_is_no_cell(self):
        web = Web(4, 1, [Step(("same",), [("number", 9)]), Step(("+",), [("place", 0), ("given", 0)])])
        program = Program([("p", ("i0", "c0"), (("xor", "i0", number(9)),))])
        self.fails(NotARow(0), placed_of_program, web, program)

    def test_a_place_held_elsewhere_and_a_cell_that_is_taken(self):
        add = ("op", ("+",), (name("i0"), name("i1")))
        names = ("i0", "i1", "c0", "c1")
        program = Program([("p", names, (("xor", "c1", add),))])
        self.same(placed_of_program(PLUS, program), ((0, 1),))
        self.same(placed_of_program(PLUS, program, ((0, 1),)), ((0, 1),))
        self.fails(NotARow(0), placed_of_program, PLUS, program, ((0, 0),))
        self.fails(NotARow(0), placed_of_program, PLUS, program, ((1, 1),))
        self.fails(NotARow(0), placed_of_program, PLUS, program, ((0, 150), (2, 1)))
        # cells without a name may be held, too
        self.same(placed_of_program(PLUS, program, ((1, 150),)), ((0, 1),))

    def test_a_step_same_is_its_operand_alone(self):
        web = Web(3, 1, [Step(("same",), [("given", 0)]), Step(("same",), [("place", 0)])])
        for body, told in (((("xor", "c0", name("i0")), ("xor", "c1", name("c0"))), ((0, 0), (1, 1))),
                           ((("xor", "c0", ("op", ("same",), (name("i0"),))),), None)):
            program = Program([("p", ("i0", "c0", "c1"), body)])
            if told is None:
                self.fails(NotARow(0), placed_of_program, web, program)
            else:
                self.same(placed_of_program(web, program), told)

    def test_wrong_held_comes_first(self):
        program = Program([("p", ("x",), ())])
        for held in NO_SEQUENCES:
            self.fails(BadHeld(-1), placed_of_program, PLUS, program, held)
        for bad in NO_COUPLES:
            self.fails(BadHeld(1), placed_of_program, PLUS, program, [(1, 1), bad])


class RunRow(Checks):

    def test_for_every_kept_row_it_is_the_worth(self):
        for seed in range(250):
            web = web_by(seed)
            inputs = inputs_for(web, seed)
            row = kept_row(web.bare, Rule(seed))
            placed = placed_row(web.bare, row)
            self.same(run_row(web, placed, inputs), web_worth(web, inputs))
            self.same(run_row(web, list(placed), list(inputs)), web_worth(web, inputs))
            program = program_of_row(web, placed)
            self.assertEqual(len(program.names), web.many + room_of(web.bare, row))
            words = run_both(program, web.width, inputs + (0,) * room_of(web.bare, row))
            cell = end_cell(web.bare, placed)
            self.same(words[:web.many], inputs)
            self.same([word for at, word in enumerate(words[web.many:]) if at != cell and word], [])

    def test_at_the_price_the_names_are_inputs_and_price(self):
        for seed in range(40):
            web = web_by(seed, 6)
            if len(web) > 8:
                continue
            price = price_of(web.bare)
            placed = placed_row(web.bare, fewest_moves(web.bare, price))
            self.assertEqual(len(program_of_row(web, placed).names), web.many + price)

    def test_rows_that_end_with_more_held(self):
        for seed, (web, placed, held, along) in enumerate(placed_webs(120)):
            inputs = inputs_for(web, seed)
            if not held and web.end in dict(along[-1]):
                self.same(run_row(web, placed, inputs), web_worth(web, inputs))
            elif not held:
                self.fails(NotHeld(), run_row, web, placed, None)

    def test_wrong_arguments_in_their_order(self):
        self.fails(BadPlaced(-1, "form"), run_row, PLUS, None, None)
        self.fails(BadPlaced(0, "befores"), run_row, PLUS, [(2, 0)], None)
        self.fails(NotHeld(), run_row, PLUS, [(0, 0)], None)
        kept = placed_row(PLUS.bare, (0, 1, 2, 1, 0))
        for inputs in NO_SEQUENCES:
            self.fails(BadInputs(-1, "many"), run_row, PLUS, kept, inputs)
        self.fails(BadInputs(-1, "many"), run_row, PLUS, kept, (1,))
        self.fails(BadInputs(0, "word"), run_row, PLUS, kept, (16, 16))

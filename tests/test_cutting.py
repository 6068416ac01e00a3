"""[14.7] and [0.2]: every layer stopped at any moment and led back to the very beginning or on to the very end."""

from helpers import NO_NUMBERS, NO_SEQUENCES, Checks, Rule
from programs import some_inputs
from test_compiling import TEXT, texts
from undocells.cells import holdings_of
from undocells.compiling import compile_all
from undocells.cutting import LAYERS, cut_made, many_steps, words_cut
from undocells.errors import BadDone, BadInputs, BadLayer, BadWay, Fewer
from undocells.machine import Machine
from undocells.plain import plain_worth
from undocells.planner import great_cells
from undocells.search import price_of
from undocells.states import start_state
from undocells.webs import web_worths


def mades(times):
    """(made, inputs) of small programs at several rooms."""
    for text, width, web in texts(times):
        least = price_of(web.bare) if len(web) <= 8 else great_cells(web.bare)
        rooms = range(least, len(web) + 1) if len(web) <= 8 else sorted({least, least + 1, len(web)})
        for room in rooms:
            made = compile_all(text, width, room)
            if len(made.row) <= 300:
                yield made, list(some_inputs(web.many, width, Rule(room), 2))


def moments(many):
    return sorted({0, 1, 2, many // 3, many // 2, many - 1, many} & set(range(many + 1)))


class Steps(Checks):

    def test_the_layers(self):
        self.same(LAYERS, ("row", "statements", "code", "gates"))

    def test_how_many(self):
        for made, inputs in mades(40):
            for given in inputs:
                self.same(many_steps(made, "row", given), len(made.row))
                self.same(many_steps(made, "statements", list(given)), len(made.statements.routines[-1][2]))
                self.same(many_steps(made, "gates", given), len(made.circuit.gates))
                zeros = (0,) * (len(made.code.names) - len(given))
                self.same(many_steps(made, "code", given), Machine(made.code, start_state(made.code, given + zeros)).run())


class Cut(Checks):

    def test_back_and_on_from_many_moments_of_each_layer(self):
        for made, inputs in mades(60):
            for given in inputs:
                worth = plain_worth(made.reading, made.web.width, given)
                cells = len(made.statements.names) - len(given)
                result = made.circuit.result
                end = tuple(worth if cell == result else 0 for cell in range(cells))
                for layer in LAYERS:
                    many = many_steps(made, layer, given)
                    for done in moments(many):
                        self.same(cut_made(made, layer, given, done, "back"), (given, (0,) * cells))
                        self.same(cut_made(made, layer, list(given), done, "on"), (given, end))
                    self.same(words_cut(made, layer, given, 0), (given, (0,) * cells))
                    self.same(words_cut(made, layer, given, many), (given, end))

    def test_every_moment_of_each_layer(self):
        for text, room in ((TEXT, 4), (TEXT, 7), ("fun f(){give 3;}", 1), ("fun f(a){give a;}", 1),
                           ("fun f(a,b){give pick(a<b,a*a,b);}", 3)):
            made = compile_all(text, 3, room)
            given = (5, 2)[:made.web.many]
            worth = plain_worth(made.reading, 3, given)
            for layer in LAYERS:
                for done in range(many_steps(made, layer, given) + 1):
                    back, on = cut_made(made, layer, given, done, "back"), cut_made(made, layer, given, done, "on")
                    self.same(back, (given, (0,) * made.circuit.cells))
                    self.same((on[0], sorted(on[1])), (given, sorted((0,) * (made.circuit.cells - 1) + (worth,))))
                    self.same(on[1][made.circuit.result], worth)

    def test_behind_each_move_its_statement_and_its_gates_the_words_are_the_same(self):
        for made, inputs in mades(25):
            given = inputs[-1]
            worths = web_worths(made.web, given)
            for done, holding in enumerate(holdings_of(made.web.bare, made.placed)):
                where = {cell: place for place, cell in holding}
                told = given, tuple(worths[where[cell]] if cell in where else 0 for cell in range(made.circuit.cells))
                self.same(words_cut(made, "row", given, done), told)
                self.same(words_cut(made, "statements", given, done), told)
                self.same(words_cut(made, "gates", given, (0, *made.circuit.ends)[done]), told)

    def test_the_words_behind_each_step_of_the_code(self):
        for made, inputs in mades(15):
            for given in inputs[:2]:
                zeros = (0,) * (len(made.code.names) - len(given))
                machine = Machine(made.code, start_state(made.code, given + zeros))
                for done in range(many_steps(made, "code", given)):
                    words = machine.words[:len(made.code.names)]
                    self.same(words_cut(made, "code", given, done), (words[:len(given)], words[len(given):]))
                    machine.step()

    def test_at_the_price_there_are_no_more_cells_and_below_it_nothing(self):
        for text, width, web in texts(60):
            if len(web) <= 8:
                price = price_of(web.bare)
                made = compile_all(text, width, price)
                self.same(len(made.statements.names), web.many + price)
                self.same(made.circuit.cells, price)
                if price > 1:
                    self.fails(Fewer(price - 1), compile_all, text, width, price - 1)


class Wrong(Checks):

    def setUp(self):
        self.made = compile_all(TEXT, 3, 5)

    def test_layers(self):
        calls = (lambda layer: many_steps(self.made, layer, None), lambda layer: words_cut(self.made, layer, None, None),
                 lambda layer: cut_made(self.made, layer, None, None, None))
        for call in calls:
            for layer in ("", "Row", "rows", "statement", None, 0, True, ["row"], ("row",), LAYERS, b"row"):
                self.fails(BadLayer(), call, layer)

    def test_inputs(self):
        calls = (lambda layer, given: many_steps(self.made, layer, given),
                 lambda layer, given: words_cut(self.made, layer, given, None),
                 lambda layer, given: cut_made(self.made, layer, given, None, None))
        for call in calls:
            for layer in LAYERS:
                for given in (*NO_SEQUENCES, (1,), (1, 2, 3)):
                    self.fails(BadInputs(-1, "many"), call, layer, given)
                for word in (8, -1, *NO_NUMBERS):
                    self.fails(BadInputs(1, "word"), call, layer, (0, word))

    def test_done(self):
        for layer in LAYERS:
            many = many_steps(self.made, layer, (1, 2))
            for done in (-1, many + 1, *NO_NUMBERS):
                self.fails(BadDone(), words_cut, self.made, layer, (1, 2), done)
                self.fails(BadDone(), cut_made, self.made, layer, (1, 2), done, None)

    def test_way(self):
        for layer in LAYERS:
            for way in ("", "Back", "forth", 1, -1, None, True, ["on"], ("back",), b"on"):
                self.fails(BadWay(), cut_made, self.made, layer, (1, 2), 3, way)

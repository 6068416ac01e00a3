"""[4.12]: what moves do to the words of cells."""

from helpers import NO_NUMBERS, NO_SEQUENCES, Checks, Rule, rows_within
from test_webs import all_inputs, made_web
from undocells.alike import change_row, settled_row
from undocells.cellwords import cells_behind
from undocells.errors import BadCells, BadInputs, BadRow, UndoError
from undocells.moves import filled_behind, row_back
from undocells.steps import Step
from undocells.webs import Web, web_worths
from undocells.words import step_word

PLAIN = Web(4, 1, [Step(("+",), [("given", 0), ("number", 17)]), Step(("*",), [("place", 0), ("place", 0)]),
                   Step(("-",), [("place", 1), ("place", 0)])])


class Cells(Checks):

    def test_moves_one_by_one(self):
        self.same(cells_behind(PLAIN, [2], [0, 0, 0], []), (0, 0, 0))
        self.same(cells_behind(PLAIN, (2,), (0, 0, 0), [0]), (3, 0, 0))
        self.same(cells_behind(PLAIN, [2], [0, 0, 0], (0, 1, 2)), (3, 9, 6))
        self.same(cells_behind(PLAIN, [2], [0, 0, 0], (0, 1, 2, 1, 0)), (0, 0, 6))

    def test_any_cells_and_moves_are_let(self):
        # a move wants nothing filled: it takes the words that stand there
        self.same(cells_behind(PLAIN, [2], [5, 15, 1], [2]), (5, 15, 1 ^ 10))
        self.same(cells_behind(PLAIN, [2], [5, 15, 1], [1, 0, 1]), (5 ^ 3, 15 ^ 9 ^ (6 * 6 % 16), 1))

    def test_nothing_that_is_passed_is_changed(self):
        cells = [0, 0, 0]
        cells_behind(PLAIN, [2], cells, [0, 1])
        self.same(cells, [0, 0, 0])

    def test_long_rows(self):
        self.same(cells_behind(PLAIN, [2], [0, 0, 0], [0] * 30001), (3, 0, 0))

    def test_errors(self):
        for inputs in NO_SEQUENCES + ((), (1, 2)):
            self.fails(BadInputs(-1, "many"), cells_behind, PLAIN, inputs, None, None)
        self.fails(BadInputs(0, "word"), cells_behind, PLAIN, [16], None, None)
        for cells in NO_SEQUENCES + ((), (0, 0), (0, 0, 0, 0)):
            self.fails(BadCells(-1), cells_behind, PLAIN, [2], cells, None)
        for word in (16, -1, *NO_NUMBERS):
            self.fails(BadCells(1), cells_behind, PLAIN, [2], [15, word, word], None)
        for row in NO_SEQUENCES:
            self.fails(BadRow(-1, "place"), cells_behind, PLAIN, [2], [0, 0, 0], row)
        for place in (3, -1, *NO_NUMBERS):
            self.fails(BadRow(1, "place"), cells_behind, PLAIN, [2], [0, 0, 0], [0, place, place])


class Promises(Checks):

    def webs(self):
        for seed in range(80):
            web = made_web(seed)
            rule = Rule(seed)
            inputs = [rule.below(2 ** web.width) for _ in range(web.many)]
            cells = [rule.below(2 ** web.width) for _ in range(len(web))]
            yield web, inputs, cells, [rule.below(len(web)) for _ in range(15)], rule

    def test_by_the_words_of_the_document(self):
        for web, inputs, cells, row, _ in self.webs():
            words = list(cells)
            for place in row:
                worth = {"place": lambda k: words[k], "given": lambda k: inputs[k], "number": lambda k: k % 2 ** web.width}
                parts = [worth[word](k) for word, k in web.steps[place].operands]
                words[place] = words[place] ^ step_word(web.steps[place].kind, parts, web.width)
            self.same(cells_behind(web, inputs, cells, row), tuple(words))

    def test_the_row_back_undoes_it(self):
        for web, inputs, cells, row, _ in self.webs():
            behind = cells_behind(web, inputs, cells, row)
            self.same(cells_behind(web, inputs, behind, row_back(row)), tuple(cells))

    def test_alike_rows_make_the_same(self):
        for web, inputs, cells, row, rule in self.webs():
            behind = cells_behind(web, inputs, cells, row)
            self.same(cells_behind(web, inputs, cells, settled_row(web.bare, row)), behind)
            for _ in range(20):
                change = rule.one_of([("exchange", rule.below(15)), ("strike", rule.below(15)),
                                      ("double", rule.below(15), rule.below(len(web)))])
                try:
                    row = change_row(web.bare, row, change)
                except UndoError:
                    continue
                self.same(cells_behind(web, inputs, cells, row), behind)

    def test_each_filled_places_cell_holds_its_word_and_each_other_cell_0(self):
        for seed in range(60):
            web = made_web(seed)
            row = rows_within(web.bare, len(web), Rule(seed), 15)
            for count, inputs in enumerate(all_inputs(web)):
                if count % 5 == 0:
                    words = web_worths(web, inputs)
                    for done in range(len(row) + 1):
                        filled = filled_behind(web.bare, row[:done])
                        want = tuple(words[k] if k in filled else 0 for k in range(len(web)))
                        self.same(cells_behind(web, inputs, [0] * len(web), row[:done]), want)

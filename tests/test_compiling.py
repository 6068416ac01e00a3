"""[14.6]: all that is made of a text."""

from helpers import NO_NUMBERS, Checks
from programs import made_text
from undocells.bwcode import code_of
from undocells.cells import placed_row
from undocells.circuits import circuit_of
from undocells.compiling import Made, compile_all
from undocells.emit import program_of_row
from undocells.errors import BadName, BadRoom, BadText, BadWidth, Fewer, TooMany, UndoError
from undocells.planner import chosen_row, great_cells
from undocells.reader import read_text
from undocells.search import price_of
from undocells.webmaker import web_of

TEXT = "fun f(a,b){let c=a+b;repeat 2{c=c*b-a;}give c^a;}"
PARTS = ("reading", "web", "row", "placed", "statements", "code", "circuit")


def texts(times):
    """(text, width, web) of small programs."""
    for seed in range(times):
        text, width = made_text(seed), 1 + seed % 6
        try:
            web = web_of(read_text(text), width)
        except UndoError:
            continue
        if len(web) <= 30:
            yield text, width, web


class Compiling(Checks):

    def test_all_that_is_made(self):
        great = 0
        for text, width, web in texts(100):
            least = price_of(web.bare) if len(web) <= 8 else great_cells(web.bare)
            great += len(web) > 8
            for room in {least, least + 1, len(web), 200}:
                made = compile_all(text, width, room)
                row = chosen_row(web.bare, room)
                placed = placed_row(web.bare, row)
                statements = program_of_row(web, placed)
                told = (read_text(text), web, row, placed, statements, code_of(statements, width), circuit_of(web, placed))
                for name, thing in zip(PARTS, told):
                    self.assertTrue(getattr(made, name) == thing, name)
                self.assertTrue(made == Made(*told))
        self.assertGreater(great, 10)

    def test_rooms_below_the_price(self):
        for text, width, web in texts(60):
            least = price_of(web.bare) if len(web) <= 8 else great_cells(web.bare)
            for room in range(1, least):
                self.fails(Fewer(room), compile_all, text, width, room)

    def test_made_is_a_result(self):
        things = [object() for _ in PARTS]
        made = Made(*things)
        for name, thing in zip(PARTS, things):
            self.assertIs(getattr(made, name), thing)

    def test_equal_mades(self):
        one = compile_all(TEXT, 4, 6)
        parts = [getattr(one, name) for name in PARTS]
        self.assertTrue(one == compile_all(TEXT.replace(";", "; "), 4, 6))
        self.assertFalse(one != compile_all(TEXT, 4, 6))
        other = compile_all("fun f(a,b){give a;}", 3, 1)
        for at, name in enumerate(PARTS):
            changed = Made(*parts[:at], getattr(other, name), *parts[at + 1:])
            self.assertFalse(one == changed)
            self.assertTrue(one != changed)
        self.assertFalse(one == tuple(parts))

    def test_errors_in_their_order(self):
        self.fails(BadText(-1, "text"), compile_all, None, None, None)
        self.fails(BadText(-1, "long"), compile_all, " " * 3001, None, None)
        self.fails(BadName(14, "unknown"), compile_all, "fun f(a){give b;}", None, None)
        for width in (0, 13, *NO_NUMBERS):
            self.fails(BadWidth(), compile_all, TEXT, width, None)
        big = "fun f(a){repeat 16{repeat 16{a=a*a;repeat 16{a=a+1;}}}give a;}"
        for room in (0, 201, *NO_NUMBERS):
            self.fails(BadRoom(), compile_all, big, 4, room)
        self.fails(TooMany(4000), compile_all, big, 4, 1)
        self.fails(TooMany(200), compile_all, "fun f(a){repeat 16{repeat 13{a=a*a;}}give a;}", 4, 1)
        self.fails(Fewer(1), compile_all, TEXT, 4, 1)

    def test_a_great_web(self):
        text = "fun f(a){" + "repeat 16{a=a*a;}" * 12 + "give a;}"
        made = compile_all(text, 1, 200)
        self.same((len(made.web), len(made.row)), (192, 383))

"""[9.12] to [9.14]: programs turned about, and a word copied out of a run."""

from bothways import made_routines, number, placed, turned
from helpers import Checks, Rule
from undocells.bwprogs import Program
from undocells.bwread import read_program
from undocells.bwrun import run_both, run_traced
from undocells.bwtext import program_text
from undocells.errors import BadProgram, NoName, OutOfFuel, Stuck
from undocells.trails import trail_back
from undocells.turnabout import copied_out, turned_about, turned_body


def ended(program, width, words, fuel=400):
    """(trail, words at the end), or the name of what stopped the run."""
    try:
        return run_traced(program, width, words, fuel)
    except (Stuck, OutOfFuel) as error:
        return error.__class__.__name__


def bare_body(body):
    """A body of placed statements without the wheres."""
    found = []
    for _, statement in body:
        parts = list(statement)
        for at in {"if": (2, 3), "from": (2, 3), "local": (3,)}.get(statement[0], ()):
            parts[at] = bare_body(statement[at])
        found.append(tuple(parts))
    return tuple(found)


class Turned(Checks):

    def test_each_statement(self):
        text = ("x+=y;x-=1;x^=y;x<=>y;if x{y+=1;y^=2;}else{y-=1;}fi y;from x{x+=1;}loop{y+=1;x-=2;}until y;"
                "local z=x{z+=1;x<=>y;}end z=y;call e(x);back e(y);")
        back = ("call e(y);back e(x);local z=y{x<=>y;z-=1;}end z=x;from y{x-=1;}loop{x+=2;y-=1;}until x;"
                "if y{y^=2;y-=1;}else{y+=1;}fi x;x<=>y;x^=y;x+=1;x-=y;")
        elder = "routine e(a){a+=1;a^=2;}"
        program = read_program(elder + "routine p(x,y){" + text + "}")
        self.same(program_text(turned_about(program)), elder + "routine p(x,y){" + back + "}")
        self.same(turned_body(program.routines[1][2]), turned_about(program).routines[1][2])
        self.same(turned_body(list(program.routines[1][2])), turned_about(program).routines[1][2])

    def test_without_statements(self):
        self.same(turned_body(()), ())
        self.same(turned_body([]), ())
        for names in ((), ("x",)):
            program = Program([("p", names, ())])
            self.same(turned_about(program).routines, program.routines)

    def test_turned_twice_it_is_the_same(self):
        for seed in range(150):
            program = Program(made_routines(seed))
            body = program.routines[-1][2]
            self.same(turned_body(body), bare_body(turned(placed(body, ()))))
            back = turned_about(program)
            self.same(back.routines[:-1], program.routines[:-1])
            self.same(back.routines[-1], (program.routines[-1][0], program.names, turned_body(body)))
            self.assertIsNot(back, program)
            self.assertTrue(turned_about(back) == program)
            self.same(turned_about(back).routines, program.routines)


class ThereAndBack(Checks):

    def test_every_end_leads_back_with_the_same_fuel_and_the_trail_turned_about(self):
        many = 0
        for seed in range(200):
            program = Program(made_routines(seed))
            back = turned_about(program)
            rule = Rule(seed)
            width = 1 + rule.below(12)
            words = tuple(rule.below(2 ** width) for _ in program.names)
            least = next((fuel for fuel in range(1, 150) if ended(program, width, words, fuel) != "OutOfFuel"), None)
            if least is None or ended(program, width, words, least) == "Stuck":
                continue
            trail, last = ended(program, width, words, least)
            self.same(ended(back, width, last, least), (trail_back(trail), words))
            if least > 1:
                self.same(ended(back, width, last, least - 1), "OutOfFuel")
            many += 1
        self.assertGreater(many, 90)

    def test_all_words_of_a_width_there_and_back(self):
        for seed in range(120):
            program = Program(made_routines(seed, 5))
            back = turned_about(program)
            many, width = len(program.names), 1 + seed % 2
            ends, begins = {}, {}
            for number_of in range(2 ** (width * many)):
                words = tuple(number_of >> width * k & 2 ** width - 1 for k in range(many))
                forward, backward = ended(program, width, words, 60), ended(back, width, words, 60)
                if isinstance(forward, tuple):
                    ends[words] = forward[1]
                if isinstance(backward, tuple):
                    begins[words] = backward[1]
            # no two words lead to one end, and each end leads back just where it came from
            self.assertEqual(begins, {end: words for words, end in ends.items()})


class CopiedOut(Checks):

    def test_the_routine_that_is_put_behind(self):
        program = read_program("routine e(a){a+=1;}routine p(x,y){x+=y;call e(y);}")
        copied = copied_out(program, "y")
        self.same(program_text(copied), program_text(program)
                  + "routine copy0(x,y,out0){call p(x,y);out0^=y;back p(x,y);}")
        self.same(copied.names, ("x", "y", "out0"))
        taken = read_program("routine copy0(out0){}routine copy2(){}routine copy1(out2,out0,out3){}")
        self.same(copied_out(taken, "out3").routines[-1][:2], ("copy3", ("out2", "out0", "out3", "out1")))
        again = copied_out(copied, "out0")
        self.same(again.routines[-1][:2], ("copy1", ("x", "y", "out0", "out1")))
        # names of routines are no names of words
        self.same(copied_out(read_program("routine out0(copy0){}"), "copy0").routines[-1][:2], ("copy0", ("copy0", "out0")))

    def test_all_names_stay_and_the_word_is_shown_at_twice_the_fuel_and_3(self):
        many = 0
        for seed in range(200):
            program = Program(made_routines(seed))
            rule = Rule(seed)
            width = 1 + rule.below(12)
            words = tuple(rule.below(2 ** width) for _ in program.names)
            fuel = next((fuel for fuel in range(1, 120) if ended(program, width, words, fuel) != "OutOfFuel"), None)
            if fuel is None or ended(program, width, words, fuel) == "Stuck":
                continue
            last = ended(program, width, words, fuel)[1]
            for at, shown in enumerate(program.names):
                out = rule.below(2 ** width)
                copied = copied_out(program, shown)
                self.same(run_both(copied, width, words + (out,), 2 * fuel + 3), words + (out ^ last[at],))
            many += 1
        self.assertGreater(many, 90)
        program = read_program("routine p(x){x+=1;x+=1;}")
        self.same(run_both(copied_out(program, "x"), 4, (1, 8), 7), (1, 11))
        self.fails(OutOfFuel(), run_both, copied_out(program, "x"), 4, (1, 8), 6)

    def test_wrong_arguments(self):
        program = read_program("routine e(a){}routine p(x){local z=0{}end z=0;}")
        for shown in ("a", "z", "out0", "", "p", None, 0, ["x"], ("x",)):
            self.fails(NoName(shown), copied_out, program, shown)
        full = Program([(f"r{k}", ("x",), ()) for k in range(20)])
        self.fails(BadProgram((), "routines"), copied_out, full, "x")
        self.fails(NoName("y"), copied_out, full, "y")
        self.same(len(copied_out(Program(full.routines[:19]), "x").routines), 20)
        wide = Program([("p", tuple(f"x{k}" for k in range(206)), ())])
        self.fails(BadProgram((1,), "parameters"), copied_out, wide, "x0")

    def test_a_program_too_deep_to_be_called(self):
        routines = [("r0", ("x",), (("add", "x", number(1)),))]
        for k in range(19):
            body = (("if", number(1), (("if", number(1), (("call", f"r{k}", ("x",)),), (), number(1)),), (), number(1)),)
            routines.append((f"r{k + 1}", ("x",), body))
        self.fails(BadProgram((), "routines"), copied_out, Program(routines), "x")
        deep = (("call", "r17", ("x",)),)
        for k in range(5):
            deep = (("if", number(1), deep, (), number(1)),)
        # 1 for r0, 3 for each of the next 17, and 6 more
        self.same(run_both(copied_out(Program(routines[:18] + [("p", ("x",), deep)]), "x"), 4, (1, 0)), (1, 2))
        deeper = (("if", number(1), (("if", number(1), deep, (), number(1)),), (), number(1)),)
        self.same(Program(routines[:18] + [("p", ("x",), deeper)]).names, ("x",))
        self.fails(BadProgram((19,), "deep"), copied_out, Program(routines[:18] + [("p", ("x",), deeper)]), "x")

"""[9.6] to [9.9]: runs of programs of both ways, and their trails."""

from bothways import Told, done_along, made_routines, name, number
from helpers import NO_NUMBERS, NO_SEQUENCES, Checks, Rule
from undocells.bwprogs import Program
from undocells.bwread import read_program
from undocells.bwrun import check_fuel, run_both, run_traced
from undocells.errors import BadFuel, BadInputs, BadWidth, OutOfFuel, Stuck

ONE = number(1)
COUNT = "routine p(x,y){from x==0{x+=1;}loop{y+=x;}until x==5;}"


def read(body, names="x,y", elders=""):
    return read_program(f"{elders}routine q({names}){{{body}}}")


class Fuel(Checks):

    def test_check_fuel(self):
        for fuel in (1, 2, 1000, 20000):
            self.same(check_fuel(fuel), fuel)
        for fuel in (0, -1, 20001, *NO_NUMBERS):
            self.fails(BadFuel(), check_fuel, fuel)

    def test_each_statement_counts_when_it_is_begun(self):
        for body, many in (("x+=1;x-=1;x^=1;x<=>y;", 4), ("if 1{x+=1;}else{}fi 1;", 2), ("if 0{x+=1;}else{}fi 0;", 1),
                           ("local z=1{x+=z;}end z=1;", 2), ("from 1{}loop{}until 1;", 1), ("call e(x);", 3), ("back e(x);", 3)):
            program = read(body, elders="routine e(a){a+=1;a-=2;}")
            self.same(len(run_both(program, 4, (1, 2), many)), 2)
            self.same(len(run_traced(program, 4, (1, 2), many)[1]), 2)
            if many > 1:
                self.fails(OutOfFuel(), run_both, program, 4, (1, 2), many - 1)
                self.fails(OutOfFuel(), run_traced, program, 4, (1, 2), many - 1)

    def test_each_running_of_an_again_block_counts(self):
        # the from, five runs of x += 1, four runs of the again block and of what is in it
        program = read_program(COUNT)
        self.same(run_both(program, 8, (0, 0), 14), (5, 10))
        self.fails(OutOfFuel(), run_both, program, 8, (0, 0), 13)
        empty = read_program("routine p(x){from x==0{x+=1;}loop{}until x==5;}")
        self.same(run_both(empty, 8, (0,), 10), (5,))
        self.fails(OutOfFuel(), run_both, empty, 8, (0,), 9)

    def test_each_run_ends(self):
        for_ever = read_program("routine p(x){from x==0{x+=1;}loop{}until 0;}")
        self.fails(OutOfFuel(), run_both, for_ever, 12, (0,), 7000)
        self.fails(Stuck((0, 0), "loop", 3 * 4096, (0,)), run_both, for_ever, 12, (0,))

    def test_20000_statements(self):
        program = Program([("p", ("x",), (("add", "x", ONE),) * 20000)])
        self.same(run_both(program, 12, [0]), (20000 % 4096,))
        self.same(run_both(program, 12, [0], 20000), (20000 % 4096,))
        self.fails(OutOfFuel(), run_both, program, 12, [0], 19999)
        longer = Program([("p", ("x",), (("add", "x", ONE),) * 20001)])
        self.fails(OutOfFuel(), run_both, longer, 12, [0])
        self.fails(OutOfFuel(), run_traced, longer, 12, [0])
        self.same(len(run_traced(program, 1, [0])[0]), 20000)


class Runs(Checks):

    def test_changes(self):
        for body, ending in (("x+=y;", (2, 4)), ("x-=y;", (10, 4)), ("x^=y;", (10, 4)), ("x<=>y;", (4, 14)), ("", (14, 4)),
                             ("x+=4095;", (13, 4)), ("y-=5;", (14, 15)), ("y^=4095;", (14, 11)), ("y+=x<<1;", (14, 0)),
                             ("x<=>y;x-=y;", (6, 14))):
            self.same(run_both(read(body), 4, (14, 4)), ending)

    def test_if(self):
        program = read("if x{y+=1;}else{y-=1;}fi x;")
        self.same(run_both(program, 4, (3, 0)), (3, 1))
        self.same(run_both(program, 4, (0, 0)), (0, 15))
        self.fails(Stuck((0, 0), "fi", 2, (0, 1)), run_both, read("if x{x-=1;}else{}fi x;"), 4, (1, 1))
        self.fails(Stuck((0, 0), "fi", 2, (1, 1)), run_both, read("if x{}else{x+=1;}fi x;"), 4, (0, 1))
        self.same(run_both(read("if x{}else{}fi y;"), 4, (7, 2)), (7, 2))

    def test_from(self):
        self.same(run_both(read_program(COUNT), 8, (0, 1)), (5, 11))
        self.fails(Stuck((0, 0), "from", 0, (3, 1)), run_both, read_program(COUNT), 8, (3, 1))
        self.same(run_both(read("from x{y+=1;}loop{x+=y;}until x;"), 4, (3, 0)), (3, 1))
        self.fails(Stuck((0, 1), "loop", 4, (1, 1)), run_both, read("x+=1;from x{y^=1;}loop{}until y==0;"), 4, (0, 0))

    def test_local(self):
        self.same(run_both(read("local z=x+1{y+=z;}end z=x+1;"), 4, (3, 5)), (3, 9))
        self.same(run_both(read("local z=y{z<=>x;}end z=x;"), 4, (6, 6)), (6, 6))
        self.fails(Stuck((0, 0), "end", 2, (3, 5, 4)), run_both, read("local z=x{z+=1;}end z=x;"), 4, (3, 5))
        self.fails(Stuck((0, 0, 0, 0), "end", 2, (3, 5, 3, 1)), run_both, read("local z=x{local v=1{}end v=z;}end z=x;"), 4, (3, 5))
        self.same(run_both(read("local z=4095{x+=z;}end z=15;"), 4, (3, 5)), (2, 5))

    def test_calls(self):
        elders = "routine e(a,b){a+=b;b+=1;}"
        self.same(run_both(read("call e(x,y);", elders=elders), 4, (3, 5)), (8, 6))
        self.same(run_both(read("call e(y,x);", elders=elders), 4, (3, 5)), (4, 8))
        self.same(run_both(read("back e(x,y);", elders=elders), 4, (3, 5)), (15, 4))
        self.same(run_both(read("call e(x,y);back e(x,y);", elders=elders), 4, (3, 5)), (3, 5))
        self.same(run_both(read("local z=2{call e(z,y);z-=y;z+=1;}end z=2;", elders=elders), 4, (3, 5)), (3, 6))

    def test_a_routine_run_back_turns_all_about(self):
        elders = COUNT + "routine e(a,b){if a{call p(b,a);}else{local c=b{b^=3;}end c=b^3;}fi a;a<=>b;}"
        program = read("call e(x,y);back e(x,y);", elders=elders)
        self.same(run_both(program, 8, (9, 0)), (9, 0))
        self.same(run_both(program, 8, (0, 7)), (0, 7))

    def test_stuck_in_a_routine_tells_where_it_is_written(self):
        elders = "routine e(a,b){b+=0;if a{a-=1;}else{}fi a;}"
        self.fails(Stuck((0, 1), "fi", 4, (0, 5)), run_both, read("x+=0;call e(x,y);", elders=elders), 4, (1, 5))
        # run back, a is 0 at first, and the block that would have come there is the other one
        elders = "routine e(a,b){b+=0;if a{}else{a+=1;}fi b;}"
        self.fails(Stuck((0, 1), "fi", 2, (0, 5)), run_both, read("x+=0;back e(x,y);", elders=elders), 4, (0, 5))
        # a from run back is stuck "from" where its last expression does not hold, "loop" where that holds again
        self.fails(Stuck((0, 0), "from", 0, (4, 5)), run_both, read("back p(x,y);", elders=COUNT), 8, (4, 5))
        looped = "routine e(a,b){from 0{a+=1;}loop{}until 1;}"
        self.fails(Stuck((0, 0), "loop", 3, (2, 5)), run_both, read("back e(x,y);", elders=looped), 8, (3, 5))
        local = "routine e(a,b){local c=a{}end c=b;}"
        self.fails(Stuck((0, 0), "end", 1, (3, 5, 5)), run_both, read("back e(x,y);", elders=local), 8, (3, 5))
        self.fails(Stuck((0, 0), "end", 1, (3, 5, 3)), run_both, read("call e(x,y);", elders=local), 8, (3, 5))

    def test_words_0_and_the_greatest_at_widths_1_and_12(self):
        for width in (1, 12):
            most = 2 ** width - 1
            self.same(run_both(read("x+=1;y-=1;"), width, (most, 0)), (0, most))
        self.same(run_both(Program([("p", (), ())]), 1, ()), ())

    def test_errors_in_their_order(self):
        program = read_program(COUNT)
        for call in (run_both, run_traced):
            for width in (0, 13, *NO_NUMBERS):
                self.fails(BadWidth(), call, program, width, None, 0)
            for words in (*NO_SEQUENCES, (), (0,), (0, 0, 0)):
                self.fails(BadInputs(-1, "many"), call, program, 8, words, 0)
            for word in (-1, 256, *NO_NUMBERS):
                self.fails(BadInputs(0, "word"), call, program, 8, (word, word), 0)
                self.fails(BadInputs(1, "word"), call, program, 8, [255, word], 0)
            for fuel in (0, 20001, -1, *NO_NUMBERS):
                self.fails(BadFuel(), call, program, 8, (3, 0), fuel)
            self.fails(OutOfFuel(), call, program, 8, (0, 0), 1)

    def test_what_was_passed_stays(self):
        words = [0, 1]
        run_both(read_program(COUNT), 8, words)
        self.same(words, [0, 1])


class Trails(Checks):

    def test_each_deed(self):
        w0, w1, w2 = name("w0"), name("w1"), name("w2")
        for body, trail in (
                ("x+=y;y-=x;x^=1;x<=>y;", (("add", "w0", w1), ("sub", "w1", w0), ("xor", "w0", ONE), ("swap", "w0", "w1"))),
                ("if x{}else{}fi y;", (("holds", w0), ("holds", w1))),
                ("if x<y{x-=1;}else{}fi x;", (("holds", ("op", ("<",), (w0, w1))), ("sub", "w0", ONE), ("holds", w0))),
                ("if x==9{}else{y<=>x;}fi 0;", (("fails", ("op", ("==",), (w0, number(9)))), ("swap", "w1", "w0"),
                                                ("fails", number(0)))),
                ("local z=x{z+=y;y-=1;}end z=x+y+1;", (
                    ("open", "w2", w0), ("add", "w2", w1), ("sub", "w1", ONE),
                    ("shut", "w2", ("op", ("+",), (("op", ("+",), (w0, w1)), ONE))))),
                ("local z=1{local v=z{v+=x;}end v=z+x;}end z=1;", (
                    ("open", "w2", ONE), ("open", "w3", w2), ("add", "w3", w0),
                    ("shut", "w3", ("op", ("+",), (w2, w0))), ("shut", "w2", ONE)))):
            self.same(run_traced(read(body), 4, (2, 3))[0], trail)

    def test_from(self):
        w0 = name("w0")
        first, last = ("op", ("==",), (w0, number(0))), ("op", ("==",), (w0, number(2)))
        program = read("from x==0{x+=1;}loop{y+=x;}until x==2;")
        self.same(run_traced(program, 4, (0, 7)), ((
            ("holds", first), ("add", "w0", ONE), ("fails", last), ("add", "w1", w0), ("fails", first), ("add", "w0", ONE),
            ("holds", last)), (2, 8)))

    def test_calls_tell_only_what_their_routine_does(self):
        elders = "routine e(a,b){a+=b;if b{}else{}fi 1;}"
        w0 = name("w0")
        self.same(run_traced(read("call e(y,x);", elders=elders), 4, (2, 3))[0], (
            ("add", "w1", w0), ("holds", w0), ("holds", ONE)))
        self.same(run_traced(read("back e(y,x);", elders=elders), 4, (2, 3))[0], (
            ("holds", ONE), ("holds", w0), ("sub", "w1", w0)))
        self.same(run_traced(read("", elders=elders), 4, (2, 3)), ((), (2, 3)))

    def test_made_programs_by_the_words_of_the_document(self):
        endings = {}
        for seed in range(600):
            routines, rule = made_routines(seed), Rule(seed)
            program = Program(routines)
            for times in range(4):
                width = rule.one_of((1, 2, 4, 12))
                words = [rule.below(2 ** width) for _ in program.names]
                fuel = rule.one_of((20000, 300, 20))
                told = Told(routines, width, words, fuel)
                if told.ending is None:
                    ending = "end"
                    self.check_end(program, width, words, fuel, told)
                elif told.ending == ("fuel",):
                    ending = "fuel"
                    self.check_error(OutOfFuel(), program, width, words, fuel)
                else:
                    ending = {"end": "local"}.get(told.ending[1], told.ending[1])
                    self.check_error(Stuck(*told.ending), program, width, words, fuel)
                endings[ending] = endings.get(ending, 0) + 1
        for ending in ("end", "fuel", "fi", "from", "loop", "local"):
            self.assertGreater(endings[ending], 4, endings)

    def check_error(self, error, program, width, words, fuel):
        self.fails(error, run_both, program, width, words, fuel)
        self.fails(error, run_traced, program, width, words, fuel)

    def check_end(self, program, width, words, fuel, told):
        trail, behind = run_traced(program, width, words, fuel)
        self.same(trail, tuple(told.trail))
        self.same(behind, tuple(told.words))
        self.same(run_both(program, width, tuple(words), fuel), behind)
        # the trail, done by itself, leads there, too
        self.same(done_along(trail, width, words), (behind, True))
        # the fuel that is just enough, and one less
        if told.used:
            self.same(run_both(program, width, words, told.used), behind)
            if told.used > 1:
                self.fails(OutOfFuel(), run_both, program, width, words, told.used - 1)

    def test_a_program_called_and_called_back_does_nothing(self):
        for seed in range(200):
            routines, rule = made_routines(seed, 100), Rule(seed)
            last, names = routines[-1][0], routines[-1][1]
            both = Program((*routines, ("both", names, (("call", last, names), ("back", last, names)))))
            words = tuple(rule.below(16) for _ in names)
            try:
                run_both(Program(routines), 4, words, 5000)
            except (Stuck, OutOfFuel):
                continue
            self.same(run_both(both, 4, words), words)

    def test_deep_programs(self):
        inner = ("add", "x", ONE)
        for _ in range(20):
            inner = ("if", ONE, (inner,), (), ONE)
        call = ("call", "a", ("x",))
        for _ in range(20):
            call = ("if", ONE, (call,), (), ONE)
        outer = ("call", "b", ("x",))
        for _ in range(17):
            outer = ("from", ONE, (outer,), (), ONE)
        program = Program([("a", ("x",), (inner,)), ("b", ("x",), (call,)), ("c", ("x",), (outer,))])
        self.same(run_both(program, 4, (15,)), (0,))

"""[1.4], [1.5], [1.7] and [1.8]: readings, their names and sizes."""

from helpers import Checks
from programs import made_text
from undocells.reader import read_text
from undocells.readings import Reading, drawn_size, names_in, renamed_expression

A, B, C = ("name", "a"), ("name", "b"), ("name", "c")
ONE = ("number", 1)
SUM = ("op", ("+",), (B, A))


class Readings(Checks):

    def test_a_reading_keeps_its_funs(self):
        funs = (("f", (), (), ONE), ("g", ("a",), (), A))
        reading = Reading(funs)
        self.assertIs(reading.funs, funs)
        self.assertIs(reading.program, funs[1])
        self.assertIs(Reading([7, 8]).program.__class__, int)

    def test_equality(self):
        one, other = Reading((("f", (), (), ONE),)), Reading((("f", (), (), ONE),))
        self.assertTrue(one == other)
        self.assertFalse(one != other)
        third = Reading((("g", (), (), ONE),))
        self.assertFalse(one == third)
        self.assertTrue(one != third)
        for thing in (one.funs, None, 1, "f"):
            self.assertFalse(one == thing)
            self.assertTrue(one != thing)


class Names(Checks):

    def test_names_are_unlike_and_ascending(self):
        self.same(names_in(SUM), ("a", "b"))
        self.same(names_in(ONE), ())
        self.same(names_in(C), ("c",))
        self.same(names_in(("op", ("pick",), (C, ("op", ("<<", 2), (B,)), ("op", ("*",), (C, A))))), ("a", "b", "c"))
        self.same(names_in(("op", ("table", (1, 2)), (("name", "a10"),))), ("a10",))
        tall = ("op", ("+",), (("name", "a2"), ("op", ("+",), (("name", "a10"), ("name", "b")))))
        self.same(names_in(tall), ("a10", "a2", "b"))

    def test_no_names_of_funs(self):
        self.same(names_in(("call", "f", (A, ("call", "g", ())))), ("a",))

    def test_renamed_all_at_once(self):
        swapped = renamed_expression(("op", ("-",), (A, ("op", ("-",), (B, C)))), {"a": "b", "b": "a"})
        self.same(swapped, ("op", ("-",), (B, ("op", ("-",), (A, C)))))

    def test_renamed_leaves_funs_kinds_and_numbers(self):
        whole = ("call", "a", (A, ONE, ("op", ("table", (3, 4)), (A,)), ("op", ("<<", 4095), (B,))))
        got = renamed_expression(whole, {"a": "x", "op": "y", "table": "z"})
        x = ("name", "x")
        self.same(got, ("call", "a", (x, ONE, ("op", ("table", (3, 4)), (x,)), ("op", ("<<", 4095), (B,)))))
        self.same(whole[2][0], A)

    def test_renamed_by_no_names_is_the_same(self):
        for expression in (A, ONE, SUM, ("call", "f", ())):
            self.same(renamed_expression(expression, {}), expression)


def size_of(text):
    return drawn_size(read_text(text))


class Sizes(Checks):

    def test_expressions(self):
        self.same(size_of("fun f(){give 1;}"), 2)
        self.same(size_of("fun f(a){give a;}"), 2)
        self.same(size_of("fun f(a){give a+1;}"), 4)
        self.same(size_of("fun f(a){give a<<3;}"), 3)
        self.same(size_of("fun f(a){give table[1,2,3,4](a);}"), 3)
        self.same(size_of("fun f(a){give pick(a,a,a*a);}"), 7)

    def test_statements(self):
        self.same(size_of("fun f(a){let b=a;give b;}"), 4)
        self.same(size_of("fun f(a){a=a+a;give a;}"), 6)
        self.same(size_of("fun f(a){repeat 3{a=a+a;a=1;}give a;}"), 2 + 1 + 3 * (4 + 2))
        self.same(size_of("fun f(a){repeat 0{a=a+a;}give a;}"), 3)
        self.same(size_of("fun f(a){repeat 16{}give a;}"), 3)
        self.same(size_of("fun f(a){repeat 2{repeat 3{a=1;}}give a;}"), 2 + 1 + 2 * (1 + 3 * 2))
        self.same(size_of("fun f(a){if a+a{a=1;}else{a=2;a=a;}give a;}"), 2 + 1 + 3 + 2 + 4)

    def test_calls_count_the_fun_each_time(self):
        self.same(size_of("fun f(a){give a+a;}fun g(b){give f(f(b));}"), 1 + (1 + (1 + 1 + 4) + 4))
        self.same(size_of("fun f(){give 1;}fun g(){give f()+f();}"), 1 + 1 + 2 * (1 + 2))

    def test_only_the_program_counts(self):
        self.same(size_of("fun f(a){give a+a*a+a;}fun g(){give 0;}"), 2)

    def test_very_great_sizes(self):
        text = "fun f0(){give 1;}"
        size = 2
        for number in range(1, 20):
            before = f"f{number - 1}()"
            text += f"fun f{number}(){{give {before}+{before}+{before};}}"
            size = 1 + 2 + 3 * (1 + size)
        self.same(size_of(text), size)
        nested = "repeat 16{" * 18 + "}" * 18
        size = 0
        for _ in range(18):
            size = 1 + 16 * size
        self.same(size_of("fun f(){" + nested + "give 1;}"), size + 2)

    def test_against_counting_made_programs(self):
        for seed in range(60):
            reading = read_text(made_text(seed))
            self.same(drawn_size(reading), count_fun(reading.program, {fun[0]: fun for fun in reading.funs}))


def count_fun(fun, funs):
    return 1 + sum(count_statement(s, funs) for s in fun[2]) + count_expression(fun[3], funs)


def count_statement(statement, funs):
    if statement[0] == "repeat":
        return 1 + sum(count_statement(s, funs) for _ in range(statement[1]) for s in statement[2])
    if statement[0] == "if":
        return 1 + count_expression(statement[1], funs) + sum(
            count_statement(s, funs) for s in statement[2] + statement[3])
    return 1 + count_expression(statement[2], funs)


def count_expression(expression, funs):
    if expression[0] in ("number", "name"):
        return 1
    called = count_fun(funs[expression[1]], funs) if expression[0] == "call" else 0
    return 1 + called + sum(count_expression(part, funs) for part in expression[2])

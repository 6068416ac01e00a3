"""[2.4] to [2.6]: the plain meaning."""

from helpers import NO_NUMBERS, NO_SEQUENCES, Checks, Rule
from programs import made_text, python_expression, python_worth, some_inputs
from undocells.errors import BadInputs, BadWidth, TooMany
from undocells.lex import cut_text
from undocells.plain import expression_word, plain_worth
from undocells.reader import read_expression, read_text
from undocells.readings import Reading, drawn_size


def worth(text, width, *inputs):
    return plain_worth(read_text(text), width, inputs)


class ExpressionWords(Checks):

    def test_against_python(self):
        names = {"a": 13, "b": 6, "c": 0}
        for text in ("a", "4095", "a+b*c-7", "a<b", "a==13", "pick(c,a,b)", "pick(a,b,c)<<2", "table[9,8,7,6](a)",
                     "(a^b)>>1", "a|b&3", "a-b-a", "0-1", "a<<3<<1", "(b-a)*(a-b)"):
            expression = read_expression(cut_text(text, 99), 0, None, ())[0]
            for width in (4, 5, 12):
                lines = {"M": 2 ** width, **{"v_" + key: value for key, value in names.items()}}
                self.same(expression_word(expression, names, width), int(eval(python_expression(expression), lines)))

    def test_numbers_are_taken_modulo(self):
        for width in range(1, 13):
            for number in (0, 1, 255, 4095):
                self.same(expression_word(("number", number), {}, width), number % 2 ** width)

    def test_names_may_be_more_than_are_needed(self):
        names = {"a": 3, "z": 1}
        self.same(expression_word(("name", "a"), names, 2), 3)
        self.same(names, {"a": 3, "z": 1})


class Programs(Checks):

    def test_statements_are_done_in_order(self):
        self.same(worth("fun f(a){let b=a;a=a+1;b=b+a;give b;}", 4, 3), 7)
        self.same(worth("fun f(a,b){let c=a;a=b;b=c;give a<<2|b;}", 4, 1, 2), 9)

    def test_repeats(self):
        self.same(worth("fun f(a){repeat 5{a=a+a;}give a;}", 12, 3), 96)
        self.same(worth("fun f(a){repeat 0{a=a+a;}give a;}", 12, 3), 3)
        self.same(worth("fun f(a){repeat 16{repeat 2{a=a+1;}}give a;}", 12, 3), 35)

    def test_each_body_has_fresh_let_names(self):
        self.same(worth("fun f(a){repeat 3{let b=1;b=b+b;a=a+b;}give a;}", 12, 0), 6)
        self.same(worth("fun f(a){repeat 2{if a{let b=5;a=a+b;}else{let b=7;a=b;}let c=a;a=c;}give a;}", 12, 0), 12)

    def test_ifs(self):
        text = "fun f(a){let b=0;if a{b=1;}else{b=2;}give b;}"
        self.same(worth(text, 4, 0), 2)
        for word in range(1, 16):
            self.same(worth(text, 4, word), 1)

    def test_calls_change_no_name_outside(self):
        self.same(worth("fun g(a){a=a+1;let b=9;b=b;give a;}fun f(a){let b=g(a)+g(g(a));give a+b<<4;}", 12, 3), 3 + 144)
        self.same(worth("fun g(a,b){let c=a;a=b;give a-c;}fun f(b,a){let c=g(a,b);give c+g(b,a)+a;}", 6, 20, 7), 7)

    def test_funs_without_parameters(self):
        self.same(worth("fun g(){give 5;}fun f(){give g()*g();}", 12), 25)

    def test_six_inputs(self):
        self.same(worth("fun f(a,b,c,d,e,g){give a+b*2+c*4+d*8+e*16+g*32;}", 12, 1, 0, 1, 1, 0, 1), 45)

    def test_made_programs_against_python(self):
        for seed in range(250):
            reading = read_text(made_text(seed))
            rule, width = Rule(seed), 1 + seed % 12
            for inputs in some_inputs(len(reading.program[1]), width, rule, 4):
                self.same(plain_worth(reading, width, list(inputs)), python_worth(reading, width, inputs))

    def test_all_inputs_of_small_widths(self):
        for seed in range(0, 60, 3):
            reading = read_text(made_text(seed))
            many = len(reading.program[1])
            for number in range(4 ** many):
                inputs = tuple(number >> 2 * k & 3 for k in range(many))
                self.same(plain_worth(reading, 2, inputs), python_worth(reading, 2, inputs))


class Errors(Checks):

    def setUp(self):
        self.reading = read_text("fun g(){give 1;}fun f(a,b){give a+b;}")

    def test_widths_come_first(self):
        for width in (0, 13, *NO_NUMBERS):
            self.fails(BadWidth(), plain_worth, self.reading, width, None)

    def test_then_inputs(self):
        for inputs in ((), (1,), (1, 2, 3), *NO_SEQUENCES):
            self.fails(BadInputs(-1, "many"), plain_worth, self.reading, 4, inputs)
        self.fails(BadInputs(1, "word"), plain_worth, self.reading, 4, [15, 16])
        self.fails(BadInputs(0, "word"), plain_worth, self.reading, 4, [True, 16])

    def big(self, size):
        """A program of one parameter and just this size."""
        # an assignment of a name has size 2, a fun 1, a name 1; a sum adds two
        reading = read_text("fun f(a){" + "repeat 16{repeat 16{a=a+1;a=a+1;a=a;}}" + "give a;}")
        body, rest = reading.program[2], size - drawn_size(reading)
        statements = (("set", "a", ("name", "a")),) * (rest // 2 - rest % 2)
        if rest % 2:
            statements += (("repeat", 1, (("set", "a", ("name", "a")),)),)
        return Reading((("f", ("a",), body + statements, ("name", "a")),))

    def test_sizes_4000_and_4001(self):
        for size in (3998, 3999, 4000):
            reading = self.big(size)
            self.same(drawn_size(reading), size)
            self.same(plain_worth(reading, 12, (5,)), 517)
        for size in (4001, 4002, 9001):
            self.same(drawn_size(self.big(size)), size)
            self.fails(TooMany(4000), plain_worth, self.big(size), 12, (5,))

    def test_sizes_come_last(self):
        self.fails(BadWidth(), plain_worth, self.big(4001), 13, ())
        self.fails(BadInputs(-1, "many"), plain_worth, self.big(4001), 12, ())
        self.fails(BadInputs(0, "word"), plain_worth, self.big(4001), 2, (4,))


class Widths(Checks):

    def test_the_worth_at_a_lesser_width(self):
        for seed in range(120):
            reading = read_text(made_text(seed, True))
            rule, width = Rule(seed), 2 + seed % 11
            for inputs in some_inputs(len(reading.program[1]), width, rule, 3):
                whole = plain_worth(reading, width, inputs)
                for less in range(1, width + 1):
                    cut = [word % 2 ** less for word in inputs]
                    self.same(plain_worth(reading, less, cut), whole % 2 ** less)

    def test_repeats_written_out(self):
        for seed in range(150):
            reading = read_text(made_text(seed))
            drawn = Reading(tuple(drawn_fun(fun) for fun in reading.funs))
            rule, width = Rule(seed), 1 + seed % 12
            for inputs in some_inputs(len(reading.program[1]), width, rule, 3):
                self.same(plain_worth(drawn, width, inputs), plain_worth(reading, width, inputs))


def drawn_fun(fun):
    """The fun with its repeats written out, the let names of each body made unlike all others."""
    return fun[:2] + (drawn_body(fun[2], [0]),) + fun[3:]


def drawn_body(body, count):
    statements = []
    for statement in body:
        if statement[0] == "repeat":
            for _ in range(statement[1]):
                statements.extend(renamed_lets(drawn_body(statement[2], count), count))
        elif statement[0] == "if":
            statements.append(("if", statement[1], drawn_body(statement[2], count), drawn_body(statement[3], count)))
        else:
            statements.append(statement)
    return tuple(statements)


def renamed_lets(body, count):
    names = {}
    for statement in body:
        if statement[0] == "let":
            count[0] += 1
            names[statement[1]] = f"z{count[0]}"
    return renamed_part(body, names)


def renamed_part(part, names):
    """Names replaced wherever they stand; keywords and kinds are no names of these programs."""
    if isinstance(part, tuple):
        return tuple(renamed_part(inner, names) for inner in part)
    return names.get(part, part)

"""[1.2] to [1.5] and [1.7]: reading texts and expressions. The sign @ marks the spot of a fault."""

from helpers import Checks
from programs import made_text
from undocells.errors import BadName, BadText, UndoError
from undocells.lex import cut_text
from undocells.reader import read_expression, read_text
from undocells.readings import Reading

LEVELS = (("==", "<"), ("|",), ("^",), ("&",), ("+", "-"), ("*",))


def name(word):
    return ("name", word)


def op(sign, *parts):
    return ("op", (sign,), parts)


def expression(text, names=None, funs=()):
    return read_expression(cut_text(text, 3000), 0, names, funs)[0]


A, B, C, D = name("a"), name("b"), name("c"), name("d")


class Marked(Checks):

    def text_fails(self, error, what, text):
        """Reading the text without its mark fails at the mark."""
        self.fails(error(text.index("@"), what), read_text, text.replace("@", ""))

    def body_fails(self, error, what, text):
        """The same for statements of a fun."""
        self.text_fails(error, what, "fun f(a,b){" + text)

    def expression_fails(self, error, what, text, names=None, funs=()):
        """The same for an expression."""
        self.fails(error(text.index("@"), what), expression, text.replace("@", ""), names, funs)


class Funs(Marked):

    def test_the_smallest_text(self):
        self.same(read_text("fun f(){give 0;}").funs, (("f", (), (), ("number", 0)),))
        self.assertIsInstance(read_text("fun f(){give 0;}"), Reading)

    def test_a_whole_text(self):
        reading = read_text("fun one(a) {\n  let b = a;\n  b = b + 1;\n  give b;\n}\nfun two() { give one(3); }")
        first = ("one", ("a",), (("let", "b", A), ("set", "b", op("+", B, ("number", 1)))), B)
        self.same(reading.funs, (first, ("two", (), (), ("call", "one", (("number", 3),)))))
        self.same(reading.program[0], "two")

    def test_20_and_21_funs(self):
        text = "".join(f"fun f{k}(){{give 1;}}" for k in range(20))
        self.same(len(read_text(text).funs), 20)
        self.text_fails(BadText, "many", text + "@fun g(){give 1;}")
        self.text_fails(BadText, "many", text + "@fun 7")
        self.text_fails(BadText, "many", text + " @fun f1(")
        self.text_fails(BadText, "want", text + "@give")

    def test_6_and_7_parameters(self):
        self.same(read_text("fun f(a,b,c,d,e,g){give a;}").program[1], ("a", "b", "c", "d", "e", "g"))
        self.text_fails(BadText, "many", "fun f(a,b,c,d,e,g,@h){give a;}")
        self.text_fails(BadText, "many", "fun f(a,b,c,d,e,g,@a){give a;}")
        self.text_fails(BadText, "want", "fun f(a,b,c,d,e,g,@3){give a;}")
        self.text_fails(BadName, "twice", "fun f(a,b,c,d,e,@b,h){give a;}")

    def test_parameters_twice(self):
        self.text_fails(BadName, "twice", "fun f(a,@a){give a;}")
        self.text_fails(BadName, "twice", "fun f(a,b, @a 3")

    def test_funs_twice(self):
        self.text_fails(BadName, "twice", "fun f(){give 1;}fun @f(")
        self.text_fails(BadName, "twice", "fun f(){give 1;}fun g(){give 1;} fun @f 7")

    def test_names_of_funs_and_other_names_may_be_alike(self):
        reading = read_text("fun f(f){let g=f;give g;}fun g(f){give f(f);}")
        self.same(reading.program, ("g", ("f",), (), ("call", "f", (name("f"),))))

    def test_wanted_tokens(self):
        for text in ("@", "  @", "@x", "@give", "fun@", "fun @3", "fun @let", "fun f@", "fun f@[", "fun f(@",
                     "fun f(@3", "fun f(@,", "fun f(a@", "fun f(a @b", "fun f(a,@", "fun f(a,@)", "fun f()@",
                     "fun f()@(", "fun f(){@", "fun f(){@}", "fun f(){give@", "fun f(){give @;", "fun f(){give 1@",
                     "fun f(){give 1@}", "fun f(){give 1;@", "fun f(){give 1;@give", "fun f(){give 1;}@;",
                     "fun f(){give 1;}@}", "fun f(){give 1;}@f", "fun f(){@;", "fun f(){@fun", "fun f(){@else",
                     "fun f(){@3", "fun f(){@(", "fun f(){@end", "fun f(){@pick", "fun f(){@local", "@routine",
                     "fun f(){give 1;}@give", "fun f(){give 1@,", "fun f(a,@,"):
            self.text_fails(BadText, "want", text)

    def test_the_text_is_cut_first(self):
        self.fails(BadText(-1, "text"), read_text, None)
        self.fails(BadText(-1, "text"), read_text, ["fun f(){give 1;}"])
        self.text_fails(BadText, "sign", "give give @$")
        text = "fun f(){give 1;}"
        self.same(len(read_text(text + " " * (3000 - len(text))).funs), 1)
        self.fails(BadText(-1, "long"), read_text, text + " " * (3001 - len(text)))


class Statements(Marked):

    def statements(self, text):
        return read_text("fun f(a,b){" + text + "give 1;}").program[2]

    def test_lets_and_assignments(self):
        self.same(self.statements("let c=a;c=b;a=c;"), (("let", "c", A), ("set", "c", B), ("set", "a", C)))
        self.same(self.statements(""), ())

    def test_repeats(self):
        self.same(self.statements("repeat 0{}"), (("repeat", 0, ()),))
        self.same(self.statements("repeat 16{a=b;b=a;}"), (("repeat", 16, (("set", "a", B), ("set", "b", A))),))

    def test_ifs(self):
        self.same(self.statements("if a{}else{}"), (("if", A, (), ()),))
        self.same(self.statements("if a==b{a=b;}else{b=a;}"),
                  (("if", op("==", A, B), (("set", "a", B),), (("set", "b", A),)),))

    def test_repeats_of_16_and_17(self):
        self.same(self.statements("repeat 16{}"), (("repeat", 16, ()),))
        self.body_fails(BadText, "many", "repeat @17{}give 1;")
        self.body_fails(BadText, "many", "repeat @4095")
        self.body_fails(BadText, "many", "repeat @17 17")

    def test_wanted_tokens(self):
        for text in ("let@", "let @3", "let @if", "let c@", "let c @a", "let c=@", "let c=@;", "let c=a@",
                     "let c=a@}", "a@", "a @a", "a@(", "a@==b", "a@+=b", "a=@", "a=b@", "a=b@,", "repeat@",
                     "repeat @a", "repeat @{", "repeat 3@", "repeat 3 @a", "repeat 3{@", "repeat 3{@give",
                     "repeat 3{a=b;@", "repeat 3{@fun", "if@", "if@{", "if a@", "if a@;", "if a{@", "if a{}@",
                     "if a{}@give", "if a{}else@", "if a{}else @if", "if a{}else{@", "if a{}else{}@else",
                     "if a{@give", "a=b;@;", "repeat 1{}@;", "let a1=a;@}"):
            self.body_fails(BadText, "want", text)

    def test_let_twice(self):
        self.body_fails(BadName, "twice", "let @a=b;")
        self.body_fails(BadName, "twice", "let @a 3")
        self.body_fails(BadName, "twice", "let c=a; let @c")
        self.body_fails(BadName, "twice", "let c=a;repeat 2{let @c=1;}")

    def test_a_let_does_not_see_its_own_name(self):
        self.body_fails(BadName, "unknown", "let c=@c;give 1;")
        self.body_fails(BadName, "unknown", "let c=a+@c;give 1;")
        self.body_fails(BadName, "unknown", "let c=@c")

    def test_unknown_first_names(self):
        for rest in ("=1;", "", " 3", "(1)", "==", ";", "+=", " let", "[", "}"):
            self.body_fails(BadName, "unknown", "@c" + rest)

    def test_unknown_names_in_expressions(self):
        for text in ("give @c;", "give @c", "give a+@c 3", "if @c{", "give @c[1]", "give @f;", "a=(@c", "repeat 1{a=@c"):
            self.body_fails(BadName, "unknown", text)

    def test_names_end_with_their_block(self):
        for text in ("repeat 1{let c=a;}give @c;", "if a{let c=1;}else{a=@c;}", "if a{let c=1;}else{}a=@c;",
                     "if a{}else{let c=1;}a=@c;", "repeat 1{let c=a;}@c=1;", "repeat 1{repeat 1{let c=a;}@c=1;}"):
            self.body_fails(BadName, "unknown", text)

    def test_names_may_be_declared_again_behind_their_block(self):
        text = "repeat 2{let c=a;a=c;}let c=b;if c{let d=1;}else{let d=2;}repeat 1{let d=c;}let d=c;"
        self.same(len(self.statements(text)), 5)

    def test_names_of_blocks_around_are_visible_and_taken(self):
        self.same(len(self.statements("let c=a;repeat 1{if c{c=a;}else{let d=c;repeat 2{d=c;}}}")), 2)
        self.body_fails(BadName, "twice", "let c=a;repeat 1{if c{let @c=a;}else{}}")
        self.body_fails(BadName, "twice", "repeat 1{if b{}else{let @a=a;}}")

    def test_names_of_one_fun_are_not_seen_in_another(self):
        self.text_fails(BadName, "unknown", "fun f(a){let b=a;give b;}fun g(){give @a;}")
        self.text_fails(BadName, "unknown", "fun f(a){let b=a;give b;}fun g(){@b=1;}")
        self.same(len(read_text("fun f(a){let b=a;give b;}fun g(){let b=1;let a=b;give a;}").funs), 2)


class Expressions(Marked):

    def test_parts(self):
        self.same(expression("a"), A)
        self.same(expression("4095"), ("number", 4095))
        self.same(expression("((a))"), A)
        self.same(expression("pick(a,b,c)"), op("pick", A, B, C))
        self.same(expression("table[1,2](a)"), ("op", ("table", (1, 2)), (A,)))
        self.same(expression("a<<0"), ("op", ("<<", 0), (A,)))
        self.same(expression("a>>4095"), ("op", (">>", 4095), (A,)))
        self.same(expression("f(a,g())", None, (("f", 2, 1), ("g", 0, 1))), ("call", "f", (A, ("call", "g", ()))))

    def test_strengths_of_all_couples_of_operators(self):
        flat = [(sign, level) for level, signs in enumerate(LEVELS) for sign in signs]
        for one, low in flat:
            for other, high in flat:
                want = op(other, op(one, A, B), C) if low >= high else op(one, A, op(other, B, C))
                self.same(expression(f"a{one}b{other}c"), want)
                self.same(expression(f"a{one}(b{other}c)"), op(one, A, op(other, B, C)))
                self.same(expression(f"(a{one}b){other}c"), op(other, op(one, A, B), C))

    def test_shifts_bind_the_strongest(self):
        for signs in LEVELS:
            for sign in signs:
                self.same(expression(f"a{sign}b<<2"), op(sign, A, ("op", ("<<", 2), (B,))))
                self.same(expression(f"a>>2{sign}b"), op(sign, ("op", (">>", 2), (A,)), B))
        self.same(expression("a<<1>>2"), ("op", (">>", 2), (("op", ("<<", 1), (A,)),)))

    def test_long_rows_of_operators(self):
        self.same(expression("a-b-c-d"), op("-", op("-", op("-", A, B), C), D))
        self.same(expression("a<b==c<d"), op("<", op("==", op("<", A, B), C), D))
        self.same(expression("a==b|c^d&a+b*c<<1"),
                  op("==", A, op("|", B, op("^", C, op("&", D, op("+", A, op("*", B, ("op", ("<<", 1), (C,)))))))))
        self.same(expression("a<<1*b+c&d^a|b==c"),
                  op("==", op("|", op("^", op("&", op("+", op("*", ("op", ("<<", 1), (A,)), B), C), D), A), B), C))

    def test_tables_of_all_numbers_of_entries(self):
        for many in range(1, 20):
            listed = ",".join(["7"] * many)
            if many in (1, 2, 4, 8, 16):
                self.same(expression(f"table[{listed}](a)"), ("op", ("table", (7,) * many), (A,)))
            else:
                self.expression_fails(BadText, "many", f"table[{listed}@](a)")
                self.expression_fails(BadText, "many", f"table[{listed}@]7")
        self.expression_fails(BadText, "want", "table[@](a)")

    def test_wanted_tokens(self):
        for text in ("@", "@)", "@+a", "@let", "(@", "(@)", "(a@", "(a@]", "a+@", "a+@)", "a<<@", "a<<@b", "a<<@(1)",
                     "a>>@", "a+@*b", "pick@", "pick @a", "pick(@", "pick(@)", "pick(a@)", "pick(a,b@)", "pick(a,b,@",
                     "pick(a,b,c@", "pick(a,b,c@,d)", "pick@[", "table@", "table@(a)", "table[@", "table[@a",
                     "table[1@", "table[1 @2", "table[1,@", "table[1,@]", "table[1]@", "table[1]@a", "table[1](@",
                     "table[1](@)", "table[1](a@", "table[1](a@,b)", "@if", "@=", "@{", "@[", "a+(b@", "a|@give"):
            self.expression_fails(BadText, "want", text)

    def test_what_stands_behind_is_left(self):
        for text, behind in (("a b", 1), ("a+b)", 3), ("a;", 1), ("a=b", 1), ("1 2", 1), ("a,b", 1), ("1(a)", 1),
                             ("(a)(b)", 3), ("a+=b", 1), ("a<=>b", 1), ("a let", 1), ("a<<1 2", 3)):
            self.same(read_expression(cut_text(text, 99), 0, None, ())[1], behind)
        self.same(read_expression(cut_text("give a*b;", 99), 1, None, ()), (op("*", A, B), 4))

    def test_names_none_or_some(self):
        for names in (("a", "b"), ["a", "b"], {"a": 1, "b": 2}):
            self.same(expression("a+b", names), op("+", A, B))
            self.expression_fails(BadName, "unknown", "a+@c", names)
        self.same(expression("xyz+c", None), op("+", name("xyz"), C))
        self.expression_fails(BadName, "unknown", "@a", ())

    def test_calls(self):
        funs = (("f", 1, 3), ("g", 0, 1), ("h", 3, 2))
        self.same(expression("h(a,f(b),g())", None, funs),
                  ("call", "h", (A, ("call", "f", (B,)), ("call", "g", ()))))
        for text in ("@f()", "@g(a)", "@h(a,b)", "a+@f(a,b)", "@h(a,b,c,d)", "f(@f())", "@f(a,a);"):
            self.expression_fails(BadName, "many", text, None, funs)
        for text in ("f(a@", "f(a,@)", "f(@,", "f(a @b", "f(@", "g(a@;"):
            self.expression_fails(BadText, "want", text, None, funs)

    def test_elder_is_due_ahead_of_the_expressions_and_many_behind_them(self):
        self.expression_fails(BadName, "elder", "@k(c", ("a",), ())
        self.expression_fails(BadName, "elder", "(@k(", None, (("f", 1, 1),))
        self.expression_fails(BadName, "elder", "@k(k", ("k",), ())
        self.expression_fails(BadName, "unknown", "f(@c,a)", ("a",), (("f", 1, 1),))
        self.expression_fails(BadName, "unknown", "g(@b)", ("a",), (("g", 0, 1),))
        self.expression_fails(BadText, "want", "f(a,a@;", None, (("f", 1, 1),))

    def test_own_and_later_funs_are_not_elder(self):
        self.text_fails(BadName, "elder", "fun f(a){give @f(a);}")
        self.text_fails(BadName, "elder", "fun f(a){give @g(a);}fun g(a){give a;}")
        self.text_fails(BadName, "elder", "fun f(a){give @a(a);}")


def deep_sum(depth):
    """A sum of numbers of just this depth."""
    return "+".join(["1"] * depth)


def too_deep_sum(depth):
    """The same with a mark at its last operator."""
    return deep_sum(depth - 1) + "@+1"


class Depths(Marked):

    def test_operators_of_depth_60_and_61(self):
        self.same(expression(deep_sum(60))[0], "op")
        self.expression_fails(BadText, "deep", too_deep_sum(61))
        self.expression_fails(BadText, "deep", too_deep_sum(61) + "+a", ())
        self.same(expression(deep_sum(59) + "<<1")[0], "op")
        for sign in ("+", "-", "*", "&", "|", "^", "==", "<"):
            self.same(expression(f"({deep_sum(59)}){sign}1")[1], (sign,))
            self.expression_fails(BadText, "deep", f"({deep_sum(60)})@{sign}1")
        self.expression_fails(BadText, "deep", f"({deep_sum(60)})@<<1")
        self.expression_fails(BadText, "deep", f"({deep_sum(60)})@>>1;")

    def test_a_number_and_brackets_have_no_further_depth(self):
        self.same(expression("(" * 20 + "1" + ")" * 20), ("number", 1))
        self.same(expression("(" + deep_sum(60) + ")")[0], "op")

    def test_the_deepest_part_counts(self):
        self.same(expression(f"a*({deep_sum(59)})")[0], "op")
        self.expression_fails(BadText, "deep", f"a@*({deep_sum(60)})")

    def test_pick_and_table(self):
        for parts in ("{},1,1", "1,{},1", "1,1,{}"):
            self.same(expression("pick(" + parts.format(deep_sum(59)) + ")")[0], "op")
            self.expression_fails(BadText, "deep", "(@pick(" + parts.format(deep_sum(60)) + ")")
        self.same(expression(f"table[1]({deep_sum(59)})")[0], "op")
        self.expression_fails(BadText, "deep", f"(@table[1]({deep_sum(60)})")

    def test_due_behind_its_last_token(self):
        for text in (f"({deep_sum(60)}@", f"a*({deep_sum(60)}@", f"pick({deep_sum(60)}@)", f"{deep_sum(60)}+@;",
                     f"pick(1,1,{deep_sum(60)}@;", f"table[1]({deep_sum(60)}@;", f"({deep_sum(60)})<<@a"):
            self.expression_fails(BadText, "want", text)
        self.expression_fails(BadText, "deep", f"a@*({deep_sum(60)})(")

    def test_the_inner_one_comes_first(self):
        self.expression_fails(BadText, "deep", f"a*({too_deep_sum(61)}")
        self.same(expression(deep_sum(60) + "*2")[1], ("+",))
        # the product behind the last + makes the sum too deep only together with it
        self.expression_fails(BadText, "deep", f"1@+({deep_sum(59)})*2;")
        self.expression_fails(BadText, "deep", f"1+({deep_sum(60)})@*2;")

    def test_calls(self):
        funs = (("f", 1, 59), ("g", 1, 60), ("h", 0, 60), ("k", 1, 1))
        self.same(expression("f(1)", None, funs)[0], "call")
        self.same(expression(f"k({deep_sum(59)})", None, funs)[0], "call")
        for text in ("(@g(1)", "(@h()", f"(@k({deep_sum(60)})", "f(1)@+1", "f(1)@<<2", "@g(1);"):
            self.expression_fails(BadText, "deep", text, None, funs)
        self.expression_fails(BadText, "want", "g(1@", None, funs)

    def test_many_comes_before_deep(self):
        self.expression_fails(BadName, "many", "@g(1,2)", None, (("g", 1, 60),))
        self.expression_fails(BadName, "many", "@h(1)", None, (("h", 0, 60),))

    def test_funs_have_the_depth_of_their_deepest_statement_or_result(self):
        for text, inner in (("let a={};give 1;", 59), ("give {};", 59), ("repeat 2{{let a={};}}give 1;", 58),
                            ("if 1{{let a={};}}else{{}}give 1;", 58), ("if 1{{}}else{{let a={};}}give 1;", 58),
                            ("if {}{{}}else{{}}give 1;", 58), ("let b=1;b={};b=1;give b;", 59)):
            fine = "fun f(){" + text.format(deep_sum(inner)) + "}fun g(){give f();}"
            self.same(len(read_text(fine).funs), 2)
            deeper = "fun f(){" + text.format(deep_sum(inner + 1)) + "}fun g(){give @f();}"
            self.text_fails(BadText, "deep", deeper)

    def test_repeats(self):
        self.same(len(read_text(f"fun f(){{repeat 2{{let a={deep_sum(59)};}}give 1;}}").funs), 1)
        self.body_fails(BadText, "deep", f"@repeat 2{{let c={deep_sum(60)};}}")
        self.body_fails(BadText, "deep", f"a=1; @repeat 1{{a={deep_sum(60)};b=1;}}5")
        self.body_fails(BadText, "want", f"repeat 2{{let c={deep_sum(60)};@")
        self.body_fails(BadText, "deep", f"repeat 1{{@repeat 2{{let c={deep_sum(60)};}}")

    def test_ifs(self):
        for inner in ("if {}{{}}else{{}}", "if 1{{a={};}}else{{}}", "if 1{{}}else{{a={};}}"):
            self.same(len(read_text("fun f(a){" + inner.format(deep_sum(59)) + "give 1;}").funs), 1)
            self.body_fails(BadText, "deep", "@" + inner.format(deep_sum(60)))
            self.body_fails(BadText, "deep", "b=1;@" + inner.format(deep_sum(60)) + "let")
            self.body_fails(BadText, "want", inner.format(deep_sum(60))[:-1] + "@")

    def test_an_empty_repeat_has_1_and_each_block_1_more(self):
        inner = "repeat 1{" * 3 + "}" * 3
        text = f"fun f0(){{{inner}give 1;}}"
        for number in range(1, 19):
            # three more for each fun: the call, and two repeats around it
            text += f"fun f{number}(){{repeat 1{{repeat 1{{let a=f{number - 1}();}}}}give 1;}}"
        # the last of them has depth 3 + 18 * 3 = 57
        self.same(len(read_text(text + "fun g(){give f18()+1+1;}").funs), 20)
        self.text_fails(BadText, "deep", text + "fun g(){give f18()+1+1@+1;}")


class ReadAsWritten(Checks):

    def test_blanks_and_line_feeds_mean_nothing(self):
        for seed in range(60):
            text = made_text(seed)
            spread = "\n ".join(str(token[1]) for token in cut_text(text, 3000))
            if len(spread) <= 3000:
                self.assertTrue(read_text(spread) == read_text(text))

    def test_every_text_cut_short_is_refused_within_it(self):
        for seed in (3, 11, 20):
            text = made_text(seed)
            for token in cut_text(text, 3000)[:-1]:
                try:
                    read_text(text[:token[2]])
                except UndoError as error:
                    self.assertIn(error.__class__.__name__, ("BadText", "BadName"))
                    self.assertLessEqual(error.spot, token[2])

"""[9.5]: programs of the language of both ways read and printed."""

from bothways import made_routines, name, number, pair
from helpers import NO_SEQUENCES, Checks, Rule
from undocells.bwprogs import Program
from undocells.bwread import read_program
from undocells.bwtext import program_text
from undocells.errors import BadName, BadProgram, BadText, UndoError
from undocells.lex import cut_text
from undocells.printer import print_expression

ONE, X, Y = number(1), name("x"), name("y")
ALL = ("routine p(a,b){a<=>b;}"
       "routine q(x,y){x+=y;y-=x*2;x^=(y+1)*2;x<=>y;if x{x+=1;}else{}fi y;from x==0{}loop{y<=>x;}until 1;"
       "local z=x{z+=x;}end z=y<<2;call p(x,y);back p(y,x);}")
READ = (("p", ("a", "b"), (("swap", "a", "b"),)),
        ("q", ("x", "y"), (
            ("add", "x", Y), ("sub", "y", pair("*", X, number(2))), ("xor", "x", pair("*", pair("+", Y, ONE), number(2))),
            ("swap", "x", "y"), ("if", X, (("add", "x", ONE),), (), Y),
            ("from", pair("==", X, number(0)), (), (("swap", "y", "x"),), ONE),
            ("local", "z", X, (("add", "z", X),), ("op", ("<<", 2), (Y,))), ("call", "p", ("x", "y")), ("back", "p", ("y", "x")))))


def spaced(text, rule):
    """The text with blanks, line feeds and brackets that mean nothing."""
    tokens = cut_text(text, 60000)[:-1]
    parts = []
    for kind, value, _ in tokens:
        parts.append(str(value))
        parts.append(rule.one_of((" ", "\n", "  ")))
    return "".join(parts)


class Reads(Checks):

    def test_all_statements(self):
        self.same(read_program(ALL).routines, READ)
        self.same(read_program(spaced(ALL, Rule(1))).routines, READ)
        self.same(read_program("routine a(){}").routines, (("a", (), ()),))
        self.same(read_program(" routine\na ( ) { }routine b(x){call a();}").routines,
                  (("a", (), ()), ("b", ("x",), (("call", "a", ()),))))

    def test_text(self):
        for thing in (*[thing for thing in NO_SEQUENCES if not isinstance(thing, str)], [], ()):
            self.fails(BadText(-1, "text"), read_program, thing)

    def test_60000_characters_and_one_more(self):
        text = "routine a(){}"
        self.same(read_program(text + " " * (60000 - len(text))).routines, (("a", (), ()),))
        self.fails(BadText(-1, "long"), read_program, text + " " * (60001 - len(text)))
        self.fails(BadText(-1, "long"), read_program, "?" * 60001)
        many = "routine a(x,y){" + "x<=>y;" * 9990 + "}"
        self.same(len(read_program(many).routines[0][2]), 9990)

    def test_faults_of_the_cutting_come_first(self):
        self.fails(BadText(18, "sign"), read_program, "routine routine a(?")
        self.fails(BadText(8, "name"), read_program, "routine toolonger(){}")
        self.fails(BadText(13, "number"), read_program, "routine a(){}4096")
        self.fails(BadText(35, "deep"), read_program, "routine a(x){" + "x+=" + "(" * 20)

    def test_want(self):
        for text, spot in (("", 0), (" \n", 2), ("fun a(){}", 0), ("a", 0), ("routine", 7), ("routine 1", 8), ("routine if(){}", 8),
                           ("routine a{}", 9), ("routine a(", 10), ("routine a(,)", 10), ("routine a(x,)", 12),
                           ("routine a(x y)", 12), ("routine a()", 11), ("routine a(){", 12), ("routine a(){}}", 13),
                           ("routine a(){};", 13), ("routine a(){}a", 13), ("routine a(x){x=1;}", 14), ("routine a(x){x;}", 14),
                           ("routine a(x){let x=1;}", 13), ("routine a(x){x+=;}", 16), ("routine a(x){x+=1}", 17),
                           ("routine a(x){x<=>1;}", 17), ("routine a(x){x<=>x}", 18), ("routine a(x){x<=>;}", 17),
                           ("routine a(x){1;}", 13), ("routine a(x){{}}", 13), ("routine a(x){give x;}", 13)):
            self.fails(BadText(spot, "want"), read_program, text)

    def test_want_in_the_longer_statements(self):
        for inner, spot in (("if{}else{}fi 1;", 2), ("if 1 else{}fi 1;", 5), ("if 1{}fi 1;", 6), ("if 1{}else fi 1;", 11),
                            ("if 1{}else{}1;", 12), ("if 1{}else{}fi;", 14), ("if 1{}else{}fi 1", 16), ("from 1{}else{}until 1;", 8),
                            ("from{}loop{}until 1;", 4), ("from 1{}loop{}fi 1;", 14), ("from 1{}loop{}until 1", 21),
                            ("local=1{}end x=1;", 5), ("local v{}end v=1;", 7), ("local v+=1{}end v=1;", 7),
                            ("local v=1{}v=1;", 11), ("local v=1{}end =1;", 15), ("local v=1{}end v 1;", 17),
                            ("local v=1{}end v=1}", 18), ("local v=1 end v=1;", 10), ("call(x);", 4), ("call p x;", 7),
                            ("call p(1);", 7), ("call p(x,);", 9), ("call p(x)", 9), ("back p(x;", 8), ("back 1(x);", 5),
                            ("back p();1", 9)):
            text = "routine p(x){" + inner
            self.fails(BadText(13 + spot, "want"), read_program, text)

    def test_another_second_name_of_a_local(self):
        self.fails(BadText(28, "want"), read_program, "routine p(x){local v=1{}end x=1;}")
        self.fails(BadText(28, "want"), read_program, "routine p(x){local v=1{}end v1=(;}")
        self.fails(BadText(28, "want"), read_program, "routine p(x){local v=1{}end end=1;}")

    def test_expressions_name_anything_and_call_nothing(self):
        self.fails(BadName(16, "elder"), read_program, "routine p(x){x+=p(1);}")
        self.fails(BadName(18, "elder"), read_program, "routine p(x){x+=1+y(?".replace("?", ""))
        self.fails(BadProgram((0, 0), "unknown"), read_program, "routine p(x){x+=y;}")
        self.fails(BadProgram((0, 0), "name"), read_program, "routine p(x){y+=y;}")

    def test_what_was_read_goes_to_program(self):
        self.fails(BadProgram((), "routines"), read_program, "".join(f"routine a{k}(){{}}" for k in range(21)))
        self.same(len(read_program("".join(f"routine a{k}(){{}}" for k in range(20))).routines), 20)
        self.fails(BadProgram((1,), "name"), read_program, "routine p(x){}routine p(x){}")
        self.fails(BadProgram((0,), "parameters"), read_program, "routine p(x,x){}")
        self.fails(BadProgram((0, 1), "same"), read_program, "routine p(x,y){x<=>y;x<=>x;}")
        # a fault of the reading comes ahead of all these
        self.fails(BadText(16, "want"), read_program, "routine p(x,x){}1")

    def test_206_parameters_and_207(self):
        names = [f"n{k}" for k in range(207)]
        self.same(read_program(f"routine p({','.join(names[:206])}){{}}").names, tuple(names[:206]))
        self.fails(BadProgram((0,), "parameters"), read_program, f"routine p({','.join(names)}){{}}")

    def test_blocks_within_blocks(self):
        def blocks(many):
            return "routine p(x){" + "if 1{" * many + "}else{}fi 1;" * many + "}"

        self.same(len(read_program(blocks(19)).routines), 1)
        self.fails(BadText(13 + 19 * 5 + 4, "deep"), read_program, blocks(20))

    def test_deep_expressions(self):
        def deep(many):
            return "routine p(x,y){x+=" + "y" + "+1" * many + ";}"

        self.same(len(read_program(deep(59)).routines), 1)
        self.fails(BadText(len(deep(59)) - 2, "deep"), read_program, deep(60))


class Prints(Checks):

    def test_all_statements(self):
        self.same(program_text(read_program(ALL)), ALL)
        self.same(program_text(Program(READ)), ALL)
        self.same(program_text(Program([("a", (), ())])), "routine a(){}")

    def test_blanks_and_brackets_only_where_they_are_needed(self):
        for inner in ("if(x+1)*2{}else{}fi(x+1)*2;", "if x{}else{}fi pick(x,1,2);", "from(x+y)*1{}loop{}until(x+1)*3;",
                      "from 1{}loop{}until table[1,2](x);", "local v=(x+1)*2{}end v=(x)*1;", "x+=(y+1)*2-y*(1-1);"):
            text = "routine p(x,y){" + inner + "}"
            self.assertLessEqual(len(program_text(read_program(text))), len(text))
        for inner in ("if(x+1)*2{}else{}fi(x+1)*2;", "if x{}else{}fi pick(x,1,2);", "from(x+y)*1{}loop{}until(x+1)*3;",
                      "from 1{}loop{}until table[1,2](x);", "x+=(y+1)*2-y*(1-1);"):
            text = "routine p(x,y){" + inner + "}"
            self.same(program_text(read_program(text)), text)
        long = "routine p ( x , y ) { if ( x ) { } else { } fi ( ( y ) ) ; x += ( ( y ) ) ; }"
        self.same(program_text(read_program(long)), "routine p(x,y){if x{}else{}fi y;x+=y;}")

    def test_made_programs_there_and_back(self):
        for seed in range(300):
            program = Program(made_routines(seed))
            text = program_text(program)
            again = read_program(text)
            self.assertTrue(again == program)
            self.same(again.routines, program.routines)
            self.same(program_text(again), text)
            self.same(read_program(spaced(text, Rule(seed))).routines, program.routines)

    def short_programs(self):
        """Made programs with a short text, with this text."""
        for seed in range(200):
            program = Program(made_routines(seed))
            text = program_text(program)
            if len(text) < 250:
                yield program, text

    def reads_as(self, text, program):
        """Whether a text can be read, and as this program."""
        try:
            return read_program(text) == program
        except UndoError:
            return False

    def test_no_character_can_be_left_out(self):
        tried = 0
        for program, text in self.short_programs():
            for at in range(len(text)):
                tried += 1
                self.assertFalse(self.reads_as(text[:at] + text[at + 1:], program))
        self.assertGreater(tried, 1000)

    def test_no_brackets_can_be_left_out(self):
        tried = 0
        for program, text in self.short_programs():
            for first, last in self.couples(text):
                tried += 1
                self.assertFalse(self.reads_as(text[:first] + text[first + 1:last] + text[last + 1:], program))
                # a blank in the place of the first one is shorter, too
                self.assertFalse(self.reads_as(text[:first] + " " + text[first + 1:last] + text[last + 1:], program))
        self.assertGreater(tried, 40)

    def couples(self, text):
        standing = []
        for at, sign in enumerate(text):
            if sign == "(":
                standing.append(at)
            elif sign == ")":
                yield standing.pop(), at

    def test_expressions_as_they_are_printed_elsewhere(self):
        for seed in range(40):
            for statement in made_routines(seed)[0][2]:
                if statement[0] in ("add", "sub", "xor"):
                    text = program_text(Program([("p", ("p0", "p1", "p2", "p3"), (statement,))]))
                    self.assertIn(print_expression(statement[2]), text)

    def test_programs_too_deep_for_reading_are_printed(self):
        inner = ("swap", "x", "y")
        for _ in range(20):
            inner = ("if", ONE, (inner,), (), ONE)
        text = program_text(Program([("p", ("x", "y"), (inner,))]))
        self.same(text, "routine p(x,y){" + "if 1{" * 20 + "x<=>y;" + "}else{}fi 1;" * 20 + "}")
        self.assertRaises(BadText, read_program, text)

"""[1.6]: the shortest text."""

from helpers import Checks
from programs import made_text
from undocells.errors import UndoError
from undocells.lex import cut_text
from undocells.printer import print_expression, print_text
from undocells.reader import read_expression, read_text

SIGNS = ("==", "<", "|", "^", "&", "+", "-", "*")


def read_back(text):
    tokens = cut_text(text, 3000)
    expression, behind = read_expression(tokens, 0, None, (("f", 1, 1), ("g", 0, 1), ("h", 2, 1)))
    return expression if tokens[behind][0] == "end" else None


def shorter_readings(text):
    """What the text reads as, with any one couple of brackets taken out."""
    for start, sign in enumerate(text):
        if sign == "(":
            level = 0
            for end in range(start, len(text)):
                level += {"(": 1, ")": -1}.get(text[end], 0)
                if level == 0:
                    break
            try:
                yield read_back(text[:start] + text[start + 1:end] + text[end + 1:])
            except UndoError:
                yield None


def all_expressions(depth):
    """Expressions of up to this depth, over few names and all forms."""
    parts = [("name", "a"), ("number", 7)] if depth == 0 else list(all_expressions(depth - 1))
    yield from parts
    if depth:
        for sign in SIGNS:
            for one in parts[::3]:
                for other in parts[::5]:
                    yield ("op", (sign,), (one, other))
        for one in parts[::4]:
            yield ("op", ("<<", 3), (one,))
            yield ("op", (">>", 0), (one,))
            yield ("op", ("table", (1, 22)), (one,))
            yield ("op", ("pick",), (one, one, ("name", "b")))
            yield ("call", "f", (one,))
            yield ("call", "h", (one, ("call", "g", ())))


class Expressions(Checks):

    def test_brackets_only_where_they_are_needed(self):
        for text in ("a", "7", "a+b*c", "(a+b)*c", "a-(b-c)", "a-b-c", "a<<3<<4", "(a+b)<<3", "a*b<<3",
                     "pick(a+b,c,1)", "table[1,2](a+b)", "f(a+b)<<1", "a==b==c", "a==(b==c)", "h(a,g())",
                     "(a|b)&c", "a|b&c", "a*(b*c)", "(a<b)+1", "a<b<c", "a<<1>>2", "a>>1<<2", "a-b+c", "a+b-c", "a-(b+c)", "a+(b-c)", "(a==b)<<2", "pick((a+b)*c,1,2)"):
            self.same(print_expression(read_back(text)), text)

    def test_needless_brackets_and_blanks_go(self):
        for text, short in (("( a )", "a"), ("(a*b)+c", "a*b+c"), ("a + ( b * c )", "a+b*c"), ("((a-b))-c", "a-b-c"),
                            ("(a<<1)<<2", "a<<1<<2"), ("a*(b<<3)", "a*b<<3"), ("(f(((a))))", "f(a)"),
                            ("(a<b)==c", "a<b==c"), ("table [ 1 , 2 ] ((a))", "table[1,2](a)")):
            self.same(print_expression(read_back(text)), short)

    def test_many_expressions_are_read_back(self):
        for expression in all_expressions(2):
            self.same(read_back(print_expression(expression)), expression)

    def test_no_couple_of_brackets_can_go(self):
        for count, expression in enumerate(all_expressions(2)):
            if count % 7 == 0:
                for reading in shorter_readings(print_expression(expression)):
                    self.assertNotEqual(reading, expression)

    def test_no_blanks_within_expressions(self):
        for expression in all_expressions(2):
            self.assertNotIn(" ", print_expression(expression))
            self.assertNotIn("\n", print_expression(expression))


class Texts(Checks):

    def test_statements(self):
        for text in ("fun f(){give 1;}", "fun f(a,b){let c=a;c=b;give c;}", "fun f(a){repeat 3{a=a+1;}give a;}",
                     "fun f(a){if a{a=1;}else{a=2;}give a;}", "fun f(a){if(a+1)*a{}else{}give(a+1)*a;}",
                     "fun f(a){repeat 0{}repeat 16{repeat 1{}}give table[1](a);}fun g(){give f(1);}",
                     "fun f(){if 1{}else{}if pick(1,2,3){}else{}give pick(1,2,3);}"):
            self.same(print_text(read_text(text)), text)

    def test_blanks_only_between_names_keywords_and_numbers(self):
        loose = "fun  f ( a ,\nb ) {\n let c = a ;\n repeat 3 { c = ( b ) ; }\n if ( a ) { } else { } give ( ( c + a ) * b ) ; }\n"
        self.same(print_text(read_text(loose)), "fun f(a,b){let c=a;repeat 3{c=b;}if a{}else{}give(c+a)*b;}")

    def test_made_texts_are_read_back_and_never_longer(self):
        for seed in range(300):
            text = made_text(seed)
            reading = read_text(text)
            printed = print_text(reading)
            self.assertTrue(read_text(printed) == reading, text)
            self.assertLessEqual(len(printed), len(text))
            self.same(print_text(read_text(printed)), printed)

    def test_no_blank_of_made_texts_can_go(self):
        for seed in range(25):
            reading = read_text(made_text(seed))
            printed = print_text(reading)
            for at, sign in enumerate(printed):
                if sign == " ":
                    try:
                        shorter = read_text(printed[:at] + printed[at + 1:])
                    except UndoError:
                        continue
                    self.assertFalse(shorter == reading)

    def test_the_greatest_text_is_read_back(self):
        text = "fun f(a){give " + "+".join(["a"] * 60) + ";}"
        text = text.replace("{", "{" + "a=a;" * ((3000 - len(text)) // 4))
        self.same(print_text(read_text(text)), text)

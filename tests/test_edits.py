"""[14.4] and [14.5]: edits of texts, the webs behind them, and the way back."""

from helpers import NO_NUMBERS, NO_SEQUENCES, Checks, Rule
from programs import made_text
from undocells.edits import edit_back, edited_text
from undocells.errors import BadEdit, BadName, BadText, UndoError
from undocells.lex import is_name
from undocells.printer import print_text
from undocells.reader import read_text
from undocells.readings import drawn_size
from undocells.webmaker import web_of

TEXT = "fun g(a,b){let c=a*b;repeat 2{c=c+a;}give c;} fun f(x,y){let z=x;repeat 3{z=g(z,y);repeat 0{}}x=g(x,z);give x;}"
PRINTED = print_text(read_text(TEXT))


def walk(body):
    """All statements of a body, those inside others too, as they are written."""
    for statement in body:
        yield statement
        for block in {"repeat": statement[2:], "if": statement[2:]}.get(statement[0], ()):
            yield from walk(block)


def own_names(fun):
    return [*fun[1], *[statement[1] for statement in walk(fun[2]) if statement[0] == "let"]]


def repeats(fun):
    return [statement for statement in walk(fun[2]) if statement[0] == "repeat"]


def calls(fun):
    return [statement for statement in walk(fun[2]) if statement[0] == "set" and statement[2][0] == "call"]


def edits_of(text):
    """Edits of the last three forms of a text, by a rule."""
    for seed, fun in enumerate(read_text(text).funs):
        rule = Rule(seed)
        for old in sorted(set(own_names(fun)))[:4]:
            yield ("rename", fun[0], old, "fresh")
            yield ["rename", fun[0], old, fun[0] if fun[0] not in own_names(fun) else "z9"]
        for which, (_, times, _) in enumerate(repeats(fun)):
            for first in {0, times, times // 2, rule.below(times + 1)}:
                yield ("split", fun[0], which, first)
        for which in range(len(calls(fun))):
            yield ("put in", fun[0], which)


def texts():
    """Texts with calls to be put in, repeats and ifs."""
    yield TEXT
    for seed in range(50):
        yield made_text(seed)
    for seed in range(30):
        # each elder fun is called by an assignment within a repeat and within an if of one fun more
        text = made_text(seed)
        rule = Rule(seed)
        body = "let q=a*3;"
        for name, parameters, _, _ in read_text(text).funs:
            parts = ",".join(rule.one_of(("a", "q", "b", "a+q", "7")) for _ in parameters)
            body += rule.one_of((f"q={name}({parts});", f"repeat 2{{a={name}({parts});let w=a;b=b+w;}}",
                                 f"if b{{q={name}({parts});}}else{{a=q;b={name}({parts});}}"))
        yield text + "fun last(a,b){" + body + "give q^a-b;}"


class Webs(Checks):

    def test_the_same_web_behind_rename_split_and_put_in(self):
        met = {}
        for text in texts():
            reading = read_text(text)
            if drawn_size(reading) > 4000:
                continue
            try:
                webs = [web_of(reading, 5, joined=joined) for joined in (True, False)]
            except UndoError:
                continue
            for edit in edits_of(text):
                try:
                    new = edited_text(text, edit)
                except BadText as error:
                    self.assertIn(error.what, ("long", "deep"))
                    continue
                changed = read_text(new)
                self.same(print_text(changed), new)
                if drawn_size(changed) <= 4000:
                    for web, joined in zip(webs, (True, False)):
                        self.assertTrue(web_of(changed, 5, joined=joined) == web)
                met[edit[0]] = met.get(edit[0], 0) + 1
        self.assertGreater(min(met.get(word, 0) for word in ("rename", "split", "put in")), 60)

    def test_each_edit_is_led_back(self):
        for text in texts():
            for edit in list(edits_of(text))[:6] + [("span", 0, 0, " "), ("span", len(text), 0, "\n")]:
                try:
                    new = edited_text(text, edit)
                except BadText:
                    continue
                back = edit_back(text, edit)
                self.assertIsInstance(back, tuple)
                self.same(back[0], "span")
                self.same(edited_text(new, back), text)
                self.same(edited_text(text, edit_back(new, back)), new)


class Spans(Checks):

    def test_characters_are_replaced(self):
        text = "fun f(a){give a;}"
        for edit, told in ((("span", 14, 1, "a+1"), "fun f(a){give a+1;}"), (("span", 0, 0, " "), " " + text),
                           (("span", 17, 0, "fun g(){give 1;}"), text + "fun g(){give 1;}"), (("span", 0, 17, text), text),
                           (["span", 0, 17, "fun g(){give 2;}"], "fun g(){give 2;}"), (("span", 5, 0, ""), text),
                           (("span", 8, 0, "\n"), "fun f(a)\n{give a;}")):
            self.same(edited_text(text, edit), told)
            self.same(edited_text(told, edit_back(text, edit)), text)

    def test_spans_that_are_none(self):
        text = "fun f(a){give a;}"
        for at in (-1, 18, *NO_NUMBERS):
            self.fails(BadEdit("span"), edited_text, text, ("span", at, 0, ""))
        for at, many in ((0, 18), (17, 1), (5, 13), (0, -1), (17, -1), *[(0, bad) for bad in NO_NUMBERS]):
            self.fails(BadEdit("span"), edited_text, text, ("span", at, many, ""))
        for put in (None, 5, b"", ["a"], ("a",), True):
            self.fails(BadEdit("span"), edited_text, text, ("span", 0, 0, put))
            self.fails(BadEdit("span"), edit_back, text, ("span", 0, 0, put))

    def test_the_new_text_is_read(self):
        text = "fun f(a){give a;}"
        self.fails(BadText(17, "want"), edited_text, text, ("span", 17, 0, "x"))
        self.fails(BadText(0, "want"), edit_back, text, ("span", 0, 17, ""))
        self.fails(BadName(14, "unknown"), edited_text, text, ("span", 14, 1, "b"))
        self.fails(BadName(14, "unknown"), edit_back, text, ["span", 14, 1, "b"])

    def test_a_text_as_long_as_is_let_and_longer(self):
        text = "fun f(a){give a;}"
        longest = edited_text(text, ("span", 0, 0, " " * 2983))
        self.same(len(longest), 3000)
        self.fails(BadText(-1, "long"), edited_text, text, ("span", 0, 0, " " * 2984))
        self.fails(BadText(-1, "long"), edited_text, longest, ("span", 5, 0, "\n"))
        self.same(edited_text(longest, ("span", 0, 2983, "")), text)
        self.same(edited_text(longest, edit_back(text, ("span", 0, 0, " "))[:2] + (3000, text)), text)


class Renames(Checks):

    def test_parameters_lets_assignments_and_expressions_alike(self):
        text = ("fun a(a){give a;}fun f(a,b){let c=a+b;a=a(a);repeat 2{let d=pick(a,c,d1(a));}if a{let e=a;}else{b=a;}"
                "give table[1,2](a)<<1;}").replace("d1(a)", "a(a)")
        told = ("fun a(a){give a;}fun f(n,b){let c=n+b;n=a(n);repeat 2{let d=pick(n,c,a(n));}if n{let e=n;}else{b=n;}"
                "give table[1,2](n)<<1;}")
        self.same(edited_text(text, ("rename", "f", "a", "n")), told)
        self.same(edited_text(text, ("rename", "a", "a", "n")), text.replace("fun a(a){give a;}", "fun a(n){give n;}"))

    def test_a_name_declared_in_several_blocks(self):
        text = "fun f(a){repeat 1{let b=a;a=b;}if a{let b=2;a=b;}else{let b=a;}let b=a;give b;}"
        self.same(edited_text(text, ("rename", "f", "b", "c")), text.replace("b", "c"))

    def test_of_funs_with_one_name_the_program_has_none(self):
        text = "fun f(x){give x;}fun x(f){give f(f);}"
        self.same(edited_text(text, ("rename", "x", "f", "y")), "fun f(x){give x;}fun x(y){give f(y);}")
        self.same(edited_text(text, ("rename", "f", "x", "f")), "fun f(f){give f;}fun x(f){give f(f);}")

    def test_wrong_ones_in_their_order(self):
        for name in ("h", "", "x", None, 5, ["f"], ("f",), True):
            self.fails(BadEdit("fun"), edited_text, TEXT, ("rename", name, "nope", None))
        for old in ("c", "a", "w", "", "f", "g", None, 0, ["x"], ("x",)):
            self.fails(BadEdit("name"), edited_text, TEXT, ("rename", "f", old, None))
        for new in ("x", "y", "z", "", "X", "fun", "1a", "abcdefghi", "a b", None, 5, ["n"], b"n"):
            self.fails(BadEdit("new"), edited_text, TEXT, ("rename", "f", "z", new))
        self.same(edited_text("fun f(a){give a;}", ("rename", "f", "a", "abcdefgh")), "fun f(abcdefgh){give abcdefgh;}")

    def test_a_text_that_grows_too_long(self):
        # 2 names in the head and the result, and 2 in each assignment, each 3 longer
        for many, grown in ((297, 2993), (298, 3003)):
            text = "fun f(a){" + "a=a;" * many + "give a;}"
            self.assertEqual(len(text) + 3 * (2 + 2 * many), grown)
            if grown > 3000:
                self.fails(BadText(-1, "long"), edited_text, text, ("rename", "f", "a", "abcd"))
            else:
                self.same(len(edited_text(text, ("rename", "f", "a", "abcd"))), grown)


class Splits(Checks):

    def test_a_repeat_becomes_two(self):
        text = "fun f(a){repeat 3{repeat 2{a=a+1;}let b=a;}if a{repeat 16{}}else{repeat 0{a=1;}}repeat 1{a=2;}give a;}"
        inner = "repeat 2{a=a+1;}let b=a;"
        for which, first, old, new in (
                (0, 1, "repeat 3{" + inner + "}", "repeat 1{" + inner + "}repeat 2{" + inner + "}"),
                (0, 0, "repeat 3{" + inner + "}", "repeat 0{" + inner + "}repeat 3{" + inner + "}"),
                (0, 3, "repeat 3{" + inner + "}", "repeat 3{" + inner + "}repeat 0{" + inner + "}"),
                (1, 2, "repeat 2{a=a+1;}", "repeat 2{a=a+1;}repeat 0{a=a+1;}"),
                (2, 9, "repeat 16{}", "repeat 9{}repeat 7{}"), (3, 0, "repeat 0{a=1;}", "repeat 0{a=1;}repeat 0{a=1;}"),
                (4, 1, "repeat 1{a=2;}", "repeat 1{a=2;}repeat 0{a=2;}")):
            self.same(edited_text(text, ("split", "f", which, first)), text.replace(old, new))

    def test_wrong_ones_in_their_order(self):
        for name in ("h", "x", None, 5, ["f"]):
            self.fails(BadEdit("fun"), edited_text, TEXT, ("split", name, 99, None))
        for which in (2, -1, 10 ** 9, *NO_NUMBERS):
            self.fails(BadEdit("which"), edited_text, TEXT, ("split", "f", which, None))
        for first in (4, -1, 17, *NO_NUMBERS):
            self.fails(BadEdit("first"), edited_text, TEXT, ("split", "f", 0, first))
        self.fails(BadEdit("first"), edited_text, TEXT, ("split", "f", 1, 1))
        self.fails(BadEdit("which"), edited_text, "fun f(){give 1;}", ("split", "f", 0, 0))
        self.fails(BadEdit("which"), edited_text, TEXT, ("split", "g", 1, 0))


class PutIn(Checks):

    def renamed(self, text, name, told):
        """The text, with the unlike fresh names of its repeat told as A, B, .. in the order of their lets."""
        reading = read_text(text)
        fun = [fun for fun in reading.funs if fun[0] == name][0]
        taken = {}
        for statement in walk(fun[2]):
            if statement[0] == "let" and statement[1] not in told and statement[1] not in taken:
                taken[statement[1]] = f"new{len(taken)}"
        for old, new in taken.items():
            text = edited_text(text, ("rename", name, old, new))
        return text

    def test_by_hand(self):
        told = PRINTED.replace("x=g(x,z);", "repeat 1{let new0=x;let new1=z;let new2=new0*new1;"
                               "repeat 2{new2=new2+new0;}x=new2;}")
        self.same(self.renamed(edited_text(TEXT, ("put in", "f", 1)), "f", ("z",)), told)
        told = PRINTED.replace("z=g(z,y);", "repeat 1{let new0=z;let new1=y;let new2=new0*new1;"
                               "repeat 2{new2=new2+new0;}z=new2;}")
        self.same(self.renamed(edited_text(TEXT, ["put in", "f", 0]), "f", ("z",)), told)

    def test_a_fun_without_statements_and_without_parameters(self):
        text = "fun h(){give 5;}fun k(a){give a*a;}fun f(b){b=h();b=k(b+1);give b;}"
        self.same(edited_text(text, ("put in", "f", 0)), text.replace("b=h();", "repeat 1{b=5;}"))
        told = text.replace("b=k(b+1);", "repeat 1{let new0=b+1;b=new0*new0;}")
        self.same(self.renamed(edited_text(text, ("put in", "f", 1)), "f", ()), told)

    def test_names_that_stand_already(self):
        # the called fun's names are those of the caller, and the shortest ones are all taken
        names = [letter for letter in "abcdefghijklmnopqrstuvwxyz"]
        lets = "".join(f"let {name}=1;" for name in names)
        text = "fun g(a,b){let c=a-b;a=c;give a;}fun f(x0){" + lets + "x0=g(b,a);a=g(a,x0);give a^x0;}"
        for which in (0, 1):
            new = edited_text(text, ("put in", "f", which))
            for joined in (True, False):
                self.assertTrue(web_of(read_text(new), 6, joined=joined) == web_of(read_text(text), 6, joined=joined))
            put = [statement for statement in read_text(new).funs[1][2] if statement[0] == "repeat"][0]
            fresh = [statement[1] for statement in put[2] if statement[0] == "let"]
            self.assertEqual(len(set(fresh)), 3)
            self.assertFalse(set(fresh) & {*names, "x0"})
            self.assertTrue(all(is_name(name) for name in fresh))

    def test_only_assignments_of_a_call_count(self):
        text = "fun g(a){give a;}fun f(a){let b=g(a);a=g(a)+1;a=(g(b));repeat 2{a=g(a);}b=g(g(a));give g(b);}"
        for which, old in ((0, "a=g(b);"), (1, "a=g(a);}"), (2, "b=g(g(a));")):
            new = edited_text(text, ("put in", "f", which))
            for other in ("let b=g(a);", "a=g(a)+1;", "a=g(b);", "a=g(a);}", "b=g(g(a));"):
                self.assertEqual(other in new, other != old, (which, other))
        self.fails(BadEdit("which"), edited_text, text, ("put in", "f", 3))

    def test_a_call_within_a_call(self):
        text = "fun g(a){give a+a;}fun h(a){a=g(a);give g(a);}fun f(a){a=h(g(a));give a;}"
        new = edited_text(text, ("put in", "f", 0))
        self.same(self.renamed(new, "f", ()), "fun g(a){give a+a;}fun h(a){a=g(a);give g(a);}fun f(a){repeat 1{let new0=g(a);"
                  "new0=g(new0);a=g(new0);}give a;}")
        again = edited_text(new, ("put in", "f", 0))
        self.assertTrue(web_of(read_text(again), 6) == web_of(read_text(text), 6))

    def test_wrong_ones_in_their_order(self):
        for name in ("h", None, 5, ["f"]):
            self.fails(BadEdit("fun"), edited_text, TEXT, ("put in", name, 99))
        for which in (2, -1, *NO_NUMBERS):
            self.fails(BadEdit("which"), edited_text, TEXT, ("put in", "f", which))
        self.fails(BadEdit("which"), edited_text, TEXT, ("put in", "g", 0))

    def test_blocks_too_deep_for_reading(self):
        inner = "a=a;"
        for _ in range(18):
            inner = "if a{" + inner + "}else{}"
        text = "fun g(a){" + inner + "give a;}fun f(a){a=g(a);give a;}"
        edited_text(text, ("put in", "f", 0))
        text = "fun g(a){" + "if a{" + inner + "}else{}" + "give a;}fun f(a){a=g(a);give a;}"
        read_text(text)
        new = None
        try:
            edited_text(text, ("put in", "f", 0))
        except BadText as error:
            new = error.what
        self.same(new, "deep")


class Wrong(Checks):

    def test_the_text_is_read_first(self):
        for text, error in ((None, BadText(-1, "text")), ("", BadText(0, "want")), (" " * 3001, BadText(-1, "long")),
                            ("fun f(a){give b;}", BadName(14, "unknown"))):
            for edit in (None, (), ("span", -1, 0, ""), ("rename", "h", "a", "b")):
                self.fails(error, edited_text, text, edit)
                self.fails(error, edit_back, text, edit)

    def test_what_is_no_edit(self):
        for edit in (*NO_SEQUENCES, (), [], ("span",), ("span", 0, 0), ("span", 0, 0, "", 0), ("rename", "f", "x"),
                     ("rename", "f", "x", "n", 0), ("split", "f", 0), ("split", "f", 0, 0, 0), ("put in", "f"),
                     ("put in", "f", 0, 0), ("putin", "f", 0), ("Span", 0, 0, ""), (None, 0, 0, ""), (["span"], 0, 0, ""),
                     (0, 0, 0, 0), (("span",), 0, 0, ""), (b"span", 0, 0, "")):
            self.fails(BadEdit("edit"), edited_text, TEXT, edit)
            self.fails(BadEdit("edit"), edit_back, TEXT, edit)

    def test_of_two_faults_the_first_is_told(self):
        self.fails(BadEdit("fun"), edited_text, TEXT, ("rename", "h", "nope", "x"))
        self.fails(BadEdit("name"), edited_text, TEXT, ("rename", "f", "nope", "x"))
        self.fails(BadEdit("which"), edited_text, TEXT, ("split", "f", 9, 99))
        self.fails(BadEdit("span"), edited_text, TEXT, ("span", -1, 0, "no text"))

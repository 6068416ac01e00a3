"""[3.5] to [3.7]: webs of programs."""

from helpers import NO_NUMBERS, Checks, Rule
from programs import made_text, some_inputs
from undocells.errors import BadWidth, TooMany
from undocells.plain import plain_worth
from undocells.reader import read_text
from undocells.readings import Reading, drawn_size
from undocells.search import price_of
from undocells.steps import Step
from undocells.webmaker import web_of
from undocells.webs import Web, joined_steps, web_worth


def steps_of(text, width=8, joined=True):
    """The steps of a program's web as plain tuples, operands written shortly."""
    web = web_of(read_text(text), width, joined=joined)
    return [(step.kind, "".join(f"{word[0]}{k} " for word, k in step.operands).strip()) for step in web]


def kinds(*signs):
    return [(sign,) for sign in signs]


class Making(Checks):

    def test_parts_come_from_left_to_right_before_the_expression(self):
        self.same(steps_of("fun f(a,b){give (a*b)-(b+a);}"),
                  [(("*",), "g0 g1"), (("+",), "g1 g0"), (("-",), "p0 p1")])
        self.same(steps_of("fun f(a,b){give pick(a*b,a-b,a+b)<<2;}"),
                  [(("*",), "g0 g1"), (("-",), "g0 g1"), (("+",), "g0 g1"), (("pick",), "p0 p1 p2"), (("<<", 2), "p3")])
        self.same(steps_of("fun f(a){give table[1,2](a*3);}"), [(("*",), "g0 n3"), (("table", (1, 2)), "p0")])

    def test_statements_come_in_order(self):
        self.same(steps_of("fun f(a,b){let c=a*b;a=c+c;let d=b-a;give d|a;}"),
                  [(("*",), "g0 g1"), (("+",), "p0 p0"), (("-",), "g1 p1"), (("|",), "p2 p1")])

    def test_the_parameters_are_the_inputs(self):
        web = web_of(read_text("fun f(a,b,c){give b*b;}"), 5)
        self.assertTrue(web == Web(5, 3, [Step(("*",), [("given", 1), ("given", 1)])]))

    def test_calls(self):
        self.same(steps_of("fun g(x,y){let z=x*y;x=z-x;give x;}fun f(a){give g(a+1,a+2)&a;}"),
                  [(("+",), "g0 n1"), (("+",), "g0 n2"), (("*",), "p0 p1"), (("-",), "p2 p0"), (("&",), "p3 g0")])

    def test_repeats(self):
        self.same(steps_of("fun f(a){repeat 3{a=a*a;}give a;}"), [(("*",), "g0 g0"), (("*",), "p0 p0"), (("*",), "p1 p1")])
        self.same(steps_of("fun f(a){repeat 2{let b=a-1;a=b;}give a;}"), [(("-",), "g0 n1"), (("-",), "p0 n1")])

    def test_ifs(self):
        self.same(steps_of("fun f(a,b){if a<b{a=a+b;}else{b=a-b;}give a*b;}"),
                  [(("<",), "g0 g1"), (("+",), "g0 g1"), (("-",), "g0 g1"), (("pick",), "p0 p1 g0"),
                   (("pick",), "p0 g1 p2"), (("*",), "p3 p4")])

    def test_picks_in_the_order_in_which_names_were_declared(self):
        text = "fun f(a,b){let c=b;let d=a;if a{d=b*a;c=b+a;b=a-b;}else{}give d^c^b;}"
        self.same(steps_of(text), [(("*",), "g1 g0"), (("+",), "g1 g0"), (("-",), "g0 g1"), (("pick",), "g0 p2 g1"),
                                   (("pick",), "g0 p1 g1"), (("pick",), "g0 p0 g0"), (("^",), "p5 p4"), (("^",), "p6 p3")])

    def test_a_name_declared_again_stands_behind_the_others(self):
        text = "fun f(a){repeat 1{let c=a;}let b=a;let c=a;if a{c=a*a;b=a+a;}else{}give c^b;}"
        self.same(steps_of(text), [(("*",), "g0 g0"), (("+",), "g0 g0"), (("pick",), "g0 p1 g0"), (("pick",), "g0 p0 g0"),
                                   (("^",), "p3 p2")])

    def test_both_branches_begin_with_the_same_names(self):
        text = "fun f(a,b){if a{b=b+1;}else{b=b*3;}give b;}"
        self.same(steps_of(text), [(("+",), "g1 n1"), (("*",), "g1 n3"), (("pick",), "g0 p0 p1")])

    def test_names_that_are_alike_behind_both_branches_are_no_pick(self):
        self.same(steps_of("fun f(a,b){if a{b=a*a;}else{b=a*a;}give b;}"), [(("*",), "g0 g0")])
        self.same(steps_of("fun f(a,b){if a{b=a*a;}else{b=a*a;}give b;}", joined=False),
                  [(("*",), "g0 g0"), (("*",), "g0 g0"), (("pick",), "g0 p0 p1")])
        self.same(steps_of("fun f(a,b){if a{b=a;}else{b=a;}give b+b;}"), [(("+",), "g0 g0")])
        self.same(steps_of("fun f(a,b){if a{b=3;}else{b=3;}give b+a;}"), [(("+",), "n3 g0")])

    def test_a_condition_that_is_a_number_takes_one_branch(self):
        self.same(steps_of("fun f(a){if 1{a=a+1;}else{a=a*2;}give a;}"), [(("+",), "g0 n1")])
        self.same(steps_of("fun f(a){if 2-2{a=a+1;}else{a=a*2;}give a;}"), [(("*",), "g0 n2")])
        # a number is kept modulo 2 ** width, so 256 is nought here
        self.same(steps_of("fun f(a){if 256{a=a+1;}else{a=a*2;}give a;}"), [(("*",), "g0 n2")])
        self.same(steps_of("fun f(a){if 256{a=a+1;}else{a=a*2;}give a;}", 9), [(("+",), "g0 n1")])

    def test_nothing_is_made_of_the_branch_that_is_not_taken(self):
        self.same(steps_of("fun f(a){let b=a;if 0{b=a*a;}else{b=a+1;}give b-a*a;}"),
                  [(("+",), "g0 n1"), (("*",), "g0 g0"), (("-",), "p0 p1")])
        rows = "repeat 13{repeat 16{b=b+b;}}"
        self.same(steps_of("fun f(a){let b=a;if 1{b=a+1;}else{" + rows + "}give b;}"), [(("+",), "g0 n1")])
        self.same(steps_of("fun f(a){let b=a;if 0{" + rows + "}else{b=a+1;}give b;}"), [(("+",), "g0 n1")])

    def test_ifs_within_ifs_and_lets_within_branches(self):
        text = "fun f(a,b){if a{let c=a*a;if b{c=c+1;}else{}b=c;}else{let c=b;b=c-a;}give b;}"
        self.same(steps_of(text), [(("*",), "g0 g0"), (("+",), "p0 n1"), (("pick",), "g1 p1 p0"), (("-",), "g1 g0"),
                                   (("pick",), "g0 p2 p3")])


class Operators(Checks):

    def test_a_pick_of_a_number_is_what_it_picks(self):
        self.same(steps_of("fun f(a){give pick(1,a*a,a+a);}"), [(("*",), "g0 g0")])
        self.same(steps_of("fun f(a){give pick(0,a*a,a+a);}"), [(("+",), "g0 g0")])
        self.same(steps_of("fun f(a){give pick(16,a*a,a+a);}", 4), [(("+",), "g0 g0")])
        self.same(steps_of("fun f(a){give pick(3,a,5)*a;}"), [(("*",), "g0 g0")])

    def test_a_pick_of_two_equal_operands_is_that_operand(self):
        self.same(steps_of("fun f(a){give pick(a,a*2,a*2)-a;}"), [(("*",), "g0 n2"), (("-",), "p0 g0")])
        self.same(steps_of("fun f(a,b){give pick(a,b,b)-a;}"), [(("-",), "g1 g0")])
        self.same(steps_of("fun f(a){give pick(a,17,1)-a;}", 4), [(("-",), "n1 g0")])
        self.same(steps_of("fun f(a){give pick(a,17,1)-a;}", 5), [(("pick",), "g0 n17 n1"), (("-",), "p0 g0")])

    def test_operators_over_numbers_are_numbers(self):
        for width in (1, 3, 8, 12):
            for part in ("2+3", "2-3", "200*200", "12&10", "12|3", "12^10", "3==3", "2<1", "5<<2", "200>>3",
                         "table[1,2,4095,4](6)", "pick(2,7,8)", "4095"):
                number = plain_worth(read_text("fun f(){give " + part + ";}"), width, ())
                self.same(steps_of("fun f(a){give a-(" + part + ");}", width), [(("-",), f"g0 n{number}")])

    def test_equal_steps_are_made_once_if_joined(self):
        text = "fun f(a){give (a+1)*(a+1);}"
        self.same(steps_of(text), [(("+",), "g0 n1"), (("*",), "p0 p0")])
        self.same(steps_of(text, joined=False), [(("+",), "g0 n1"), (("+",), "g0 n1"), (("*",), "p0 p1")])
        self.same(steps_of("fun f(a){give (a+17)*(a+1);}", 4), [(("+",), "g0 n1"), (("*",), "p0 p0")])
        self.same(steps_of("fun f(a){give (a<<1)*(a<<2)*(a<<1);}"),
                  [(("<<", 1), "g0"), (("<<", 2), "g0"), (("*",), "p0 p1"), (("*",), "p2 p0")])

    def test_nothing_else_is_simplified(self):
        for part, kind, operands in (("a+0", ("+",), "g0 n0"), ("a*1", ("*",), "g0 n1"), ("a-a", ("-",), "g0 g0"),
                                     ("a<<0", ("<<", 0), "g0"), ("a*0", ("*",), "g0 n0"), ("0*a", ("*",), "n0 g0"),
                                     ("a<<4095", ("<<", 4095), "g0"), ("a==a", ("==",), "g0 g0"),
                                     ("table[5](a)", ("table", (5,)), "g0"), ("pick(a,1,0)", ("pick",), "g0 n1 n0")):
            self.same(steps_of("fun f(a){give " + part + ";}"), [(kind, operands)])
        self.same(steps_of("fun f(a,b){give (a+b)*(b+a);}"), [(("+",), "g0 g1"), (("+",), "g1 g0"), (("*",), "p0 p1")])

    def test_results_that_are_numbers_or_inputs(self):
        self.same(steps_of("fun f(a){give a;}"), [(("same",), "g0")])
        self.same(steps_of("fun f(a,b){a=b;give a;}", joined=False), [(("same",), "g1")])
        self.same(steps_of("fun f(){give 4095;}", 4), [(("same",), "n15")])
        self.same(steps_of("fun f(a){let b=a*a;give 2+3;}"), [(("same",), "n5")])
        self.same(steps_of("fun f(a){give pick(0,a*a,a);}"), [(("same",), "g0")])
        self.same(steps_of("fun f(a){give a*a;}"), [(("*",), "g0 g0")])

    def test_steps_without_a_road_to_the_result_are_taken_out(self):
        text = "fun f(a){let b=a*a;let c=b+1;let d=b-1;let e=d|c;give d;}"
        self.same(steps_of(text), [(("*",), "g0 g0"), (("-",), "p0 n1")])
        self.same(steps_of("fun f(a){let b=a*1;let c=a*2;let d=a*3;give d-b;}"),
                  [(("*",), "g0 n1"), (("*",), "g0 n3"), (("-",), "p1 p0")])
        self.same(steps_of("fun f(a){let b=a*1;let c=b*2;give b;}"), [(("*",), "g0 n1")])


class Errors(Checks):

    def test_widths_come_first(self):
        heavy = read_text("fun f(a){repeat 16{repeat 16{a=a+a+a+a+a+a+a+a+a;}}give a;}")
        for width in (0, 13, *NO_NUMBERS):
            self.fails(BadWidth(), web_of, heavy, width)
            self.fails(BadWidth(), web_of, heavy, width, joined=False)

    def sized(self, size):
        """A program of just this size, whose steps would be far more than 200."""
        sums = ("repeat", 16, (("repeat", 16, (("set", "a", ("op", ("+",), (("name", "a"), ("name", "a")))),)),))
        plain = ("set", "a", ("name", "a"))
        rest = size - drawn_size(Reading((("f", ("a",), (sums,), ("name", "a")),)))
        once = (("repeat", 1, (plain,)),) if rest % 2 else ()
        body = (sums,) + once + (plain,) * ((rest - 3 * (rest % 2)) // 2)
        return Reading((("f", ("a",), body, ("name", "a")),))

    def test_sizes_4000_and_4001_the_one_error_ahead_of_the_other(self):
        for joined in (True, False):
            for size, most in ((4000, 200), (4001, 4000), (3999, 200), (4002, 4000)):
                self.same(drawn_size(self.sized(size)), size)
                self.fails(TooMany(most), web_of, self.sized(size), 8, joined=joined)
        light = Reading((("f", ("a",), (("set", "a", ("name", "a")),) * 1999, ("name", "a")),))
        self.same((drawn_size(light), len(web_of(light, 8))), (4000, 1))
        light = Reading((("f", ("a",), (("repeat", 1, ()),) + (("set", "a", ("name", "a")),) * 1999, ("name", "a")),))
        self.fails(TooMany(4000), web_of, light, 8)

    def test_200_and_201_steps(self):
        for many, rest in ((12, 8), (12, 9)):
            text = f"fun f(a){{repeat {many}{{repeat 16{{a=a+a;}}}}repeat {rest}{{a=a+a;}}give a;}}"
            if rest == 8:
                self.same(len(web_of(read_text(text), 8)), 200)
            else:
                self.fails(TooMany(200), web_of, read_text(text), 8)

    def test_steps_that_would_be_taken_out_count(self):
        rows = "repeat 12{repeat 16{b=b+b;}}repeat 7{b=b+b;}"
        fine = "fun f(a){let b=a;" + rows + "give a*a;}"
        self.same(len(web_of(read_text(fine), 8)), 1)
        self.fails(TooMany(200), web_of, read_text(fine.replace("a*a", "a*a*a")), 8)
        self.same(len(web_of(read_text("fun f(a){let b=a;" + rows + "give a;}"), 8)), 1)
        self.fails(TooMany(200), web_of, read_text("fun f(a){let b=a;" + rows + "b=b*b;give a;}"), 8)

    def test_equal_steps_count_only_if_not_joined(self):
        text = "fun f(a){let b=0;repeat 15{repeat 15{b=a*a;}}give b;}"
        self.same(len(web_of(read_text(text), 8)), 1)
        self.fails(TooMany(200), web_of, read_text(text), 8, joined=False)


def twin(reading):
    """The program that takes its old result from itself, so that many equal steps are made."""
    name, parameters, body, result = reading.program
    return Reading(reading.funs[:-1] + ((name, parameters, body, ("op", ("-",), (result, result))),))


class Promises(Checks):

    def test_the_web_has_the_plain_worth_joined_or_not(self):
        for seed in range(250):
            reading = read_text(made_text(seed))
            width, rule = 1 + seed % 12, Rule(seed)
            joined, loose = web_of(reading, width), web_of(reading, width, joined=False)
            many = len(reading.program[1])
            self.same((joined.many, joined.width, loose.many, loose.width), (many, width) * 2)
            for inputs in some_inputs(many, width, rule, 4):
                worth = plain_worth(reading, width, inputs)
                self.same((web_worth(joined, inputs), web_worth(loose, inputs)), (worth, worth))

    def test_joined_no_two_steps_are_equal_and_the_price_is_never_more(self):
        less = 0
        for seed in range(250):
            reading = twin(read_text(made_text(seed)))
            width = 1 + seed % 12
            joined, loose = web_of(reading, width), web_of(reading, width, joined=False)
            steps = [repr((step.kind, step.operands)) for step in joined]
            self.same(len(set(steps)), len(steps))
            less += len(joined) < len(loose)
            if len(loose) <= 8:
                self.assertLessEqual(price_of(joined.bare), price_of(loose.bare))
        self.assertGreater(less, 60)

    def test_joining_changes_nothing_in_a_joined_web(self):
        for seed in range(100):
            web = web_of(read_text(made_text(seed)), 8)
            self.assertTrue(joined_steps(web)[0] == web)

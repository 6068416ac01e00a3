"""[11.5] to [11.7]: the code of programs, its bounds, its runs against run_both, and code turned about."""

from bothways import Told, made_routines, name, number, pair
from codes import all_states, branches_of, good_code
from helpers import NO_NUMBERS, Checks, Rule
from undocells.bwcode import code_of, turned_code
from undocells.bwprogs import Program
from undocells.bwread import read_program
from undocells.bwrun import run_both
from undocells.codejudge import code_fault, regions_of
from undocells.coderows import Code
from undocells.errors import BadWidth, Halted, OutOfFuel, RowStuck, Stuck, TooMany
from undocells.machine import Machine
from undocells.states import MachineState, end_state, left_over, start_state, stepped, stepped_back, turned_state
from undocells.turnabout import turned_about


def operations(expression):
    return 1 + sum(operations(part) for part in expression[2]) if expression[0] == "op" else 0


def expressions(statement):
    """The expressions of one statement, without its blocks."""
    word = statement[0]
    if word in ("add", "sub", "xor"):
        return [statement[2]]
    if word in ("if", "from"):
        return [statement[1], statement[4]]
    return [statement[2], statement[4]] if word == "local" else []


def blocks(statement):
    if statement[0] in ("if", "from"):
        return [statement[2], statement[3]]
    return [statement[3]] if statement[0] == "local" else []


def statements_at(program):
    """Each statement of a program by its where."""
    found = {}

    def walk(body, where):
        for index, statement in enumerate(body):
            found[(*where, index)] = statement
            for block, inner in enumerate(blocks(statement)):
                walk(inner, (*where, index, block))
    for at, (_, _, body) in enumerate(program.routines):
        walk(body, (at,))
    return found


def bound_of(statement):
    """The most rows of a statement."""
    handed = len(statement[2]) if statement[0] in ("call", "back") else 0
    return 4 + 3 * sum(operations(expression) for expression in expressions(statement)) + 2 * handed


def locals_deep(body):
    return max([(statement[0] == "local") + max([locals_deep(block) for block in blocks(statement)], default=0)
                for statement in body], default=0)


def most_slots(program):
    statements = statements_at(program).values()
    deep = sum(locals_deep(body) for _, _, body in program.routines)
    handed = sum(len(parameters) for _, parameters, _ in program.routines[:-1])
    most = max([operations(e) for statement in statements for e in expressions(statement)], default=0)
    return len(program.names) + handed + deep + most


class Watch(Told):
    """A run by the words of the document that tells for each count of the fuel the statement it is for."""

    def __init__(self, *args):
        self.bounds = 0
        super().__init__(*args)

    def run(self, body, slots):
        for where, statement in body:
            self.bounds += self.bound(statement)
            super().run(((where, statement),), slots)

    def bound(self, statement):
        return bound_of(statement) + 1

    def do_from(self, where, statement, slots):
        before = self.used
        _, first, body, again, last = statement
        self.check(first, slots, True, where, "from")
        self.run(body, slots)
        while not self.check(last, slots):
            self.count()
            self.bounds += self.bound(statement)
            self.run(again, slots)
            self.check(first, slots, False, where, "loop")
            self.run(body, slots)
        assert self.used >= before


def where_turned(program, where):
    """Where a statement of the program turned about stands in the program."""
    if where[0] < len(program.routines) - 1:
        return where
    body, found = program.routines[-1][2], [where[0]]
    for at, number_of in enumerate(where[1:]):
        if at % 2 == 0:
            found.append(len(body) - 1 - number_of)
            statement = body[found[-1]]
        else:
            found.append(number_of)
            body = blocks(statement)[number_of]
    return tuple(found)


def made_programs(times, careless=12):
    for seed in range(times):
        rule = Rule(seed)
        yield seed, Program(made_routines(seed, careless)), 1 + rule.below(12)


def stop_of(code, words, fuel=1000000):
    """(steps, None) of a run of the machine, or (None, the origin of the row at which it is stuck)."""
    machine = Machine(code, start_state(code, words))
    try:
        return machine.run(fuel), machine.state
    except RowStuck as error:
        return None, code.origins[error.row]


class OfPrograms(Checks):

    def test_it_is_good_and_keeps_its_bounds(self):
        for seed, program, width in made_programs(300, 6):
            code = code_of(program, width)
            self.same(code_fault(code), None)
            self.same((code.width, code.names), (width, program.names))
            self.assertLessEqual(code.slots, most_slots(program))
            self.assertEqual(len(code.spans), len(program.routines) - 1)
            counts = {}
            for at, where in enumerate(code.origins):
                counts[where] = counts.get(where, 0) + 1
            statements = statements_at(program)
            for where, many in counts.items():
                if len(where) == 1:
                    self.assertEqual(many, 2)
                else:
                    self.assertLessEqual(many, bound_of(statements[where]))
            for k, (enter, leave) in enumerate(code.spans):
                self.same((code.rows[enter], code.origins[enter]), (("enter", k), (k,)))
                self.same((code.rows[leave], code.origins[leave]), (("leave", k), (k,)))
            last = len(program.routines) - 1
            for region, where in zip(regions_of(code), code.origins):
                self.assertEqual(where[0], last if region == -1 else region)

    def test_it_does_what_run_both_does_to_the_end_or_stuck(self):
        met = {}
        for seed, program, width in made_programs(400, 7):
            code = code_of(program, width)
            for run in range(3):
                rule = Rule(seed * 10 + run)
                words = tuple(rule.below(2 ** width) for _ in program.names)
                told = Watch(program.routines, width, words, 300)
                if told.ending == ("fuel",):
                    continue
                steps, stop = stop_of(code, words)
                if told.ending is None:
                    self.assertTrue(stop == end_state(code, tuple(told.words)))
                    self.same(left_over(code, stop), ())
                    self.assertLessEqual(steps, told.bounds)
                else:
                    self.same((steps, stop), (None, told.ending[0]))
                word = told.ending and told.ending[1]
                met[word] = met.get(word, 0) + 1
        self.assertGreater(min(met[word] for word in (None, "fi", "from", "loop", "end")), 15)

    def test_led_back_it_is_the_program_turned_about(self):
        stuck = 0
        for seed, program, width in made_programs(200, 5):
            code, back = code_of(program, width), turned_about(program)
            rule = Rule(seed + 77)
            words = tuple(rule.below(2 ** width) for _ in program.names)
            machine = Machine(code, turned_state(end_state(code, words)))
            try:
                told = run_both(back, width, words, 300)
                machine.run(1000000)
                self.assertTrue(machine.state == turned_state(start_state(code, told)))
            except Stuck as error:
                with self.assertRaises(RowStuck) as caught:
                    machine.run(1000000)
                self.same(code.origins[caught.exception.row], where_turned(program, error.where))
                stuck += 1
            except OutOfFuel:
                continue
        self.assertGreater(stuck, 20)

    def test_every_statement_with_every_size_of_expression(self):
        e = [number(3), name("y"), pair("+", name("y"), number(1)), pair("*", pair("^", name("y"), name("y")), name("y")),
             ("op", ("pick",), (pair("<", name("y"), number(2)), ("op", ("<<", 1), (name("y"),)), number(0)))]
        for one in e:
            for other in e:
                for statement in (("add", "x", one), ("if", one, (("add", "x", other),), (("sub", "x", other),), one),
                                  ("if", one, (("swap", "x", "z"),), (("xor", "x", other),), other),
                                  ("local", "v", one, (("add", "v", other), ("swap", "x", "v")), other),
                                  ("from", one, (("add", "x", one),), (("add", "y", number(1)),), other),
                                  ("call", "e", ("y", "x")), ("back", "e", ("z", "x"))):
                    elder = ("e", ("a", "b"), (("add", "a", number(2)), ("if", name("b"), (("swap", "a", "b"),), (), name("a"))))
                    program = Program([elder, ("p", ("x", "y", "z"), (statement,))])
                    for width in (1, 2):
                        code = code_of(program, width)
                        for words in ((x, y, z) for x in range(2) for y in range(2 ** width) for z in range(2)):
                            told = Watch(program.routines, width, words, 60)
                            if told.ending == ("fuel",):
                                continue
                            steps, stop = stop_of(code, words)
                            if told.ending:
                                self.same(stop, told.ending[0])
                            else:
                                self.assertTrue(stop == end_state(code, tuple(told.words)))
                                self.assertLessEqual(steps, told.bounds)

    def test_operations_within_operations_are_worked_out_back_on_every_road(self):
        deep = "((n+y)*(n^3)-((y&n)+(n<<1)))"
        texts = [f"x+={deep}*({deep}+1);x-=({deep}^y)<<1;x^=(y+1)*((n+2)*({deep}|y));",
                 f"if ({deep}<y)+(y*(n+1))" + "{x+=1;}else{x+=2;}" + f"fi ({deep}<y)+(y*(n+1));",
                 "local v=0{from (v+0)*((v+1)*(v+y+1))==0{v+=1;x+=v;}loop{x^=" + deep + "+v;}until "
                 "((v+1)*(v+y*0))-(v+v*0)==9;}end v=3;",
                 f"local v={deep}*(y+(n+1))" + "{x+=v;}" + f"end v=({deep}*(y+(n+1)))+((y-y)*(n+1));"]
        ended = 0
        for text in texts:
            program = read_program("routine p(x,y,n){" + text + "}")
            for width in (1, 3, 4):
                code, back = code_of(program, width), turned_about(program)
                for number_of in range(60):
                    rule = Rule(number_of)
                    words = tuple(rule.below(2 ** width) for _ in range(3))
                    told = Watch(program.routines, width, words, 300)
                    steps, stop = stop_of(code, words)
                    if told.ending:
                        self.same(stop, told.ending[0])
                        continue
                    ended += 1
                    last = tuple(told.words)
                    self.assertTrue(stop == end_state(code, last))
                    self.assertLessEqual(steps, told.bounds)
                    machine = Machine(code, end_state(code, last))
                    machine.led(-1)
                    self.assertTrue(machine.state == turned_state(start_state(code, words)))
                    self.same(run_both(back, width, last), words)
        self.assertGreater(ended, 500)

    def test_without_statements_and_without_names(self):
        code = code_of(Program([("p", (), ())]), 1)
        self.same((code.names, len(code), code.start, code.spans, code.origins), ((), 0, 0, (), ()))
        self.same(stop_of(code, ())[0], 0)
        code = code_of(read_program("routine e(){}routine p(x){call e();back e();}"), 12)
        self.same((code.rows[:2], code.start, code.spans), ((("enter", 0), ("leave", 0)), 2, ((0, 1),)))
        self.same(Machine(code, start_state(code, (5,))).run(), 4)

    def test_20_routines_and_locals_as_deep_as_is_let(self):
        routines = [("r0", ("a", "b"), (("add", "a", name("b")),))]
        for k in range(1, 20):
            word = ("call", "back")[k % 2]
            routines.append((f"r{k}", ("a", "b"), (("swap", "a", "b"), (word, f"r{k - 1}", ("b", "a")), ("add", "b", number(k)))))
        program = Program(routines)
        code = code_of(program, 8)
        self.same((code_fault(code), len(code.spans), code.slots), (None, 19, 2 * 20))
        for words in ((0, 0), (3, 5), (255, 254)):
            self.assertTrue(stop_of(code, words)[1] == end_state(code, run_both(program, 8, words)))
        body = (("add", "x", name("v19")), ("local", "v20", name("x"), (), name("x")))
        for k in reversed(range(20)):
            body = (("local", f"v{k}", number(k), body, number(k)),)
        code = code_of(Program([("p", ("x",), body)]), 8)
        self.same(code.slots, 22)
        self.assertTrue(stop_of(code, (7,))[1] == end_state(code, (26,)))

    def test_rows_as_many_as_are_let_and_one_more(self):
        one = ("add", "x", number(1))
        code = code_of(Program([("p", ("x",), (one,) * 25000)]), 4)
        self.same(Machine(code, start_state(code, (1,))).run(), 25000)
        many = Program([("p", ("x",), (("local", "v", number(0), (), number(0)),) * 25000)])
        self.assertLessEqual(len(code_of(many, 4)), 100000)
        # far beyond the bound at one row for each statement
        self.fails(TooMany(100000), code_of, Program([("p", ("x",), (one,) * 100001)]), 4)
        deep = name("y")
        for _ in range(100):
            deep = pair("+", deep, number(1))
        broad = Program([("p", ("x", "y"), (("add", "x", deep),) * 329)])
        self.assertLessEqual(len(code_of(broad, 4)), 100000)

    def test_wrong_widths(self):
        program = Program([("p", ("x",), (("add", "x", number(1)),) * 100001)])
        for width in (0, 13, *NO_NUMBERS):
            self.fails(BadWidth(), code_of, program, width)


def led(code, turned, state):
    """The state of the turned code at which it passes on as the code passes back from this state."""
    gap, way, branch, words = state.gap, state.way, state.branch, state.words

    def over(at, shift):
        for enter, leave in (*code.spans, (code.start, len(code) - 1)):
            if enter <= at <= leave + shift:
                return enter + leave + shift - at
        raise AssertionError("no region")
    if branch:
        region = code.rows[branch[-1]][1]
        enter, leave = code.spans[region]
        gap = enter + leave + 1 - gap
    else:
        gap = code.start + len(code) - gap
    return MachineState(gap, -way, tuple(over(at, 0) for at in branch), words)


class Turned(Checks):

    def test_by_hand(self):
        test = (("slot", 0), 1)
        rows = (("enter", 0), ("add", 0, ("same",), (("number", 1),)), ("sub", 1, ("same",), (("slot", 0),)), ("leave", 0),
                ("go", test, 6), ("call", 0), ("come", test, 4), ("swap", 0, 1), ("back", 0), ("zero", 1))
        turned = (("enter", 0), ("add", 1, ("same",), (("slot", 0),)), ("sub", 0, ("same",), (("number", 1),)), ("leave", 0),
                  ("zero", 1), ("back", 0), ("swap", 0, 1), ("go", test, 9), ("call", 0), ("come", test, 7))
        origins = tuple((k,) for k in range(10))
        code = turned_code(Code(3, ("x",), 2, rows, origins))
        self.same((code.width, code.names, code.slots, code.rows), (3, ("x",), 2, turned))
        self.same(code.origins, ((3,), (2,), (1,), (0,), (9,), (8,), (7,), (6,), (5,), (4,)))
        self.same(turned_code(Code(3, (), 2, rows)).origins, ())
        self.same(turned_code(Code(3, (), 0, ())).rows, ())

    def test_turned_twice_it_is_the_same_and_good(self):
        for seed in range(300):
            code = good_code(seed)
            turned = turned_code(code)
            self.same(code_fault(turned), None)
            self.assertTrue(turned_code(turned) == code)
            self.same((turned.spans, turned.start), (code.spans, code.start))
        for seed, program, width in made_programs(60):
            code = code_of(program, width)
            self.same(code_fault(turned_code(code)), None)
            self.assertTrue(turned_code(turned_code(code)) == code)

    def test_it_is_passed_on_as_the_code_is_passed_back_row_by_row(self):
        steps = 0
        for seed in range(300):
            width = 1 + seed % 2
            code = good_code(seed, width, 1 + seed // 2 % (4 - width), 2, 5)
            if len(branches_of(code)) > 12:
                continue
            turned = turned_code(code)
            for told in all_states(code):
                state = MachineState(*told)
                partner = led(code, turned, state)
                try:
                    following = stepped(code, state)
                except Halted:
                    self.fails(Halted(-state.way), stepped, turned, partner)
                    continue
                except RowStuck as error:
                    with self.assertRaises(RowStuck) as caught:
                        stepped(turned, partner)
                    ahead = led(code, turned, MachineState(error.row, 1, state.branch, ())).gap - 1
                    word = {"go": "come", "come": "go"}.get(error.what, error.what)
                    self.same((caught.exception.row, caught.exception.what), (ahead, word))
                    continue
                self.assertTrue(stepped(turned, partner) == led(code, turned, following))
                steps += 1
        self.assertGreater(steps, 3000)

    def test_the_turned_code_of_a_program_runs_the_program_back(self):
        for seed, program, width in made_programs(120):
            rule = Rule(seed)
            words = tuple(rule.below(2 ** width) for _ in program.names)
            try:
                ends = run_both(program, width, words, 300)
            except (Stuck, OutOfFuel):
                continue
            turned = turned_code(code_of(program, width))
            self.assertTrue(stop_of(turned, ends)[1] == end_state(turned, words))
            self.assertTrue(stepped_back(turned, stepped(turned, start_state(turned, ends))) == start_state(turned, ends)
                            if len(turned) > turned.start else True)

"""[9.1] to [9.4]: programs of the language of both ways."""

from bothways import made_routines, name, number, pair, used_in
from helpers import NO_SEQUENCES, Checks, Rule
from undocells.bwprogs import Program
from undocells.errors import BadProgram, NoRoutine, UndoError
from undocells.lex import KEYWORDS, is_name

ONE, X, Y, Z = number(1), name("x"), name("y"), name("z")
ELDER = ("p", ("a", "b"), ())


def program_of(body, parameters=("x", "y"), elders=(ELDER,)):
    return Program((*elders, ("q", tuple(parameters), tuple(body))))


def nested(many, inner, word="if"):
    """A statement within so many others."""
    for _ in range(many):
        inner = ("if", ONE, (), (inner,), ONE) if word == "if" else ("from", ONE, (inner,), (), ONE)
    return inner


def listed(body, where, visible, around):
    """All statements of a body, each ahead of those in its blocks: (where, statement, visible names, how many around)."""
    for index, statement in enumerate(body):
        here = (*where, index)
        yield here, statement, visible, around
        if statement[0] in ("if", "from"):
            yield from listed(statement[2], (*here, 0), visible, around + 1)
            yield from listed(statement[3], (*here, 1), visible, around + 1)
        if statement[0] == "local":
            yield from listed(statement[3], (*here, 0), visible | {statement[1]}, around + 1)


def word_of(statement, visible, around, elders):
    """The word for a statement of the right form, by the words of the document."""
    word = statement[0]
    expressions = {"if": [1, 4], "from": [1, 4], "local": [2, 4], "add": [2], "sub": [2], "xor": [2]}.get(word, [])
    used = {"swap": statement[1:3], "call": statement[2], "back": statement[2], "local": (), "if": (), "from": ()}.get(
        word, statement[1:2])
    if around > 20:
        return "level"
    if any(other not in visible for other in used):
        return "name"
    if word == "local" and (not is_name(statement[1]) or statement[1] in visible):
        return "name"
    if any(used_in(statement[at]) - visible for at in expressions):
        return "unknown"
    if word in ("add", "sub", "xor") and statement[1] in used_in(statement[2]):
        return "same"
    if word in ("swap", "call", "back") and len(set(used)) < len(used):
        return "same"
    if word in ("call", "back"):
        if statement[1] not in elders:
            return "routine"
        if len(statement[2]) != elders[statement[1]][0]:
            return "many"
    return None


def fault_told(routines):
    """(where, what) for routines of the right form, or None."""
    elders = {}
    for at, (called, parameters, body) in enumerate(routines):
        if not is_name(called) or called in elders:
            return (at,), "name"
        if len(parameters) > 206 or not all(is_name(p) for p in parameters) or len(set(parameters)) < len(parameters):
            return (at,), "parameters"
        depth = 0
        for where, statement, visible, around in listed(body, (at,), set(parameters), 0):
            word = word_of(statement, visible, around, elders)
            if word:
                return where, word
            depth = max(depth, 1 + around + (elders[statement[1]][1] if statement[0] in ("call", "back") else 0))
        if depth > 60:
            return (at,), "deep"
        elders[called] = (len(parameters), depth)
    return None


class Right(Checks):

    def test_a_program(self):
        routines = [ELDER, ("q", ("x", "y"), (("add", "x", Y), ("call", "p", ("y", "x"))))]
        program = Program(routines)
        self.same(program.routines, tuple(routines))
        self.same(program.names, ("x", "y"))
        routines.append(ELDER)
        self.same(len(program.routines), 2)

    def test_all_statements(self):
        body = (("add", "x", Y), ("sub", "y", ("op", ("pick",), (X, ONE, X))), ("xor", "x", ("op", ("<<", 3), (Y,))),
                ("swap", "x", "y"), ("if", X, (("add", "x", ONE),), (), Y), ("from", X, (), (("swap", "y", "x"),), ONE),
                ("local", "z", X, (("add", "z", X), ("add", "x", Z)), Y), ("call", "p", ("x", "y")),
                ("back", "p", ("y", "x")), ("xor", "x", ("op", ("table", (1, 2)), (Y,))))
        self.same(program_of(body).routines[1][2], body)
        self.same(Program([("a", (), ())]).names, ())
        self.same(Program([("a", (), ()), ("b", (), (("call", "a", ()), ("back", "a", ())))]).names, ())

    def test_made_programs(self):
        for seed in range(200):
            routines = made_routines(seed)
            self.assertIsNone(fault_told(routines))
            program = Program(list(routines) if seed % 2 else routines)
            self.same(program.routines, routines)
            self.same(program.names, routines[-1][1])

    def test_equality(self):
        program = program_of([("add", "x", Y)])
        self.assertTrue(program == program_of([("add", "x", Y)]))
        self.assertFalse(program != program_of([("add", "x", Y)]))
        for other in (program_of([("sub", "x", Y)]), program_of([("add", "x", Y)], elders=()), None, program.routines):
            self.assertTrue(program != other)
            self.assertFalse(program == other)

    def test_routine_number(self):
        program = Program([("a", (), ()), ("b", (), ()), ("c1", (), ())])
        self.same([program.routine_number(text) for text in ("a", "b", "c1")], [0, 1, 2])
        for text in ("d", "", "c", None, 0, ("a",)):
            self.fails(NoRoutine(text), program.routine_number, text)


class Faults(Checks):

    def refused(self, where, what, body, parameters=("x", "y"), elders=(ELDER,)):
        self.fails(BadProgram((len(elders), *where), what), program_of, body, parameters, elders)

    def test_routines(self):
        for thing in (*NO_SEQUENCES, (), []):
            self.fails(BadProgram((), "routines"), Program, thing)
        many = [(f"r{k}", (), ()) for k in range(21)]
        self.same(len(Program(many[:20]).routines), 20)
        self.fails(BadProgram((), "routines"), Program, many)
        self.fails(BadProgram((), "routines"), Program, [None] * 21)

    def test_form_of_a_routine(self):
        for thing in (None, 3, "abc", (), ("a", ()), ("a", (), (), ()), ["a", (), ()], (3, (), ()), ("a", [], ()), ("a", (), []),
                      ("a", "x", ()), ("a", (), "x"), (None, None, None)):
            self.fails(BadProgram((0,), "form"), Program, [thing])
            self.fails(BadProgram((1,), "form"), Program, [ELDER, thing, None])

    def test_name_of_a_routine(self):
        for text in ("", "A", "1a", "a b", "toolonger", "é", *KEYWORDS):
            self.fails(BadProgram((0,), "name"), Program, [(text, (3,), (None,))])
        self.fails(BadProgram((1,), "name"), Program, [ELDER, ("p", ("x", "x"), ())])

    def test_parameters(self):
        for parameters in (("x", "x"), ("x", "y", "x"), ("X",), ("fun",), (3,), (None,), ("toolonger",), ("",)):
            self.fails(BadProgram((0,), "parameters"), Program, [("a", parameters, (None,))])
        names = tuple(f"n{k}" for k in range(207))
        self.same(Program([("a", names[:206], ())]).names, names[:206])
        self.fails(BadProgram((0,), "parameters"), Program, [("a", names, ())])

    def test_form_of_a_statement(self):
        wrong = [None, 3, "add", (), ("add",), ("add", "x"), ("add", "x", Y, Y), ["add", "x", Y], ("mul", "x", Y), (None, "x", Y), (["add"], "x", Y),
                 ("add", 3, Y), ("add", None, Y), ("swap", "x", 3), ("swap", "x"), ("swap", "x", "y", "z"), ("if", X, (), Y),
                 ("if", X, [], (), Y), ("if", X, (), None, Y), ("from", X, (), []), ("from", X, "", (), Y), ("local", 3, X, (), Y),
                 ("local", "z", X, [], Y), ("local", "z", X, ()), ("call", "p", ["x", "y"]), ("call", "p", ("x", 3)),
                 ("call", 3, ("x", "y")), ("call", "p"), ("back", "p", "xy"), ("back", "p", None), ("give", X)]
        for statement in wrong:
            self.refused((0,), "form", [statement])
            self.refused((1, 0, 0), "form", [("swap", "x", "y"), ("if", ONE, (statement,), (None,), ONE)])

    def test_expressions_that_are_none(self):
        wrong = (None, "y", 1, (), ("y",), ("name",), ("name", 3), ("name", "y", ()), ("number", -1), ("number", 4096), ("number", True),
                 ("number", "1"), ("text", "y"), ["name", "y"], ("call", "p", (Y,)), ("op", ("+",)), ("op", ("+",), (Y,)),
                 ("op", ("+",), [Y, Y]), ("op", ("+",), (Y, None)), ("op", "+", (Y, Y)), ("op", ("%",), (Y, Y)),
                 ("op", ("+",), (Y, Y), ()), ("fun", ("+",), (Y, Y)), ("op", ("<<", 1), (Y, Y)), ("op", ("pick",), (Y, Y)))
        for expression in wrong:
            for statement in (("add", "x", expression), ("if", expression, (), (), Y), ("from", Y, (), (), expression),
                              ("local", "z", expression, (), Y), ("local", "z", Y, (), expression)):
                self.refused((0,), "form", [statement])
                self.refused((0,), "form", [("if", Y, (), (), pair("*", expression, Y))])

    def test_name(self):
        for statement in (("add", "z", Y), ("sub", "z", Y), ("xor", "p", Y), ("swap", "z", "x"), ("swap", "x", "z"),
                          ("call", "p", ("x", "z")), ("back", "p", ("z", "x")), ("local", "x", ONE, (), ONE),
                          ("local", "Z", ONE, (), ONE), ("local", "end", ONE, (), ONE), ("local", "", ONE, (), ONE)):
            self.refused((0,), "name", [statement])

    def test_a_local_is_visible_in_its_block_alone(self):
        local = ("local", "z", ONE, (("add", "z", X), ("local", "v", Z, (("swap", "v", "z"),), Z)), ONE)
        self.same(program_of([local, local]).routines[1][2], (local, local))
        self.refused((1,), "name", [local, ("add", "z", X)])
        self.refused((1,), "unknown", [local, ("add", "x", Z)])
        self.refused((0, 0, 0), "name", [("local", "z", ONE, (("local", "z", ONE, (), ONE),), ONE)])
        self.refused((0,), "unknown", [("local", "z", Z, (), ONE)])
        self.refused((0,), "unknown", [("local", "z", ONE, (), Z)])
        self.refused((0, 0, 1), "name", [("if", ONE, (local, ("add", "z", X)), (), ONE)])

    def test_unknown(self):
        for statement in (("add", "x", Z), ("sub", "x", pair("+", Y, Z)), ("xor", "x", ("op", ("<<", 1), (Z,))),
                          ("if", Z, (), (), X), ("if", X, (), (), Z), ("from", Z, (), (), X), ("from", X, (), (), Z)):
            self.refused((0,), "unknown", [statement])

    def test_same(self):
        for statement in (("add", "x", X), ("sub", "x", pair("*", Y, X)), ("xor", "x", ("op", ("table", (1,)), (X,))),
                          ("swap", "x", "x"), ("call", "p", ("x", "x")), ("back", "p", ("y", "y"))):
            self.refused((0,), "same", [statement])

    def test_routine_and_many(self):
        for word in ("call", "back"):
            self.refused((0,), "routine", [(word, "r", ("x", "y"))])
            self.refused((0,), "routine", [(word, "q", ("x", "y"))])
            self.refused((0,), "many", [(word, "p", ("x",))])
            self.refused((0,), "many", [(word, "p", ("x", "y", "z"))], ("x", "y", "z"))
            self.refused((0,), "many", [(word, "p", ())])
        later = (("q", ("x", "y"), (("call", "p", ("x", "y")),)), ELDER)
        self.fails(BadProgram((0, 0), "routine"), Program, later)

    def test_level(self):
        for word in ("if", "from"):
            self.same(len(program_of([nested(20, ("swap", "x", "y"), word)]).routines), 2)
        self.refused((0, *[1, 0] * 21), "level", [nested(21, ("swap", "x", "y"))])
        self.refused((0, *[0, 0] * 21), "level", [nested(21, None, "from")])

    def test_deep(self):
        def chained(levels):
            """Routines that each add 20 and more levels to the last one."""
            return [("a", ("x", "y"), (nested(20, ("swap", "x", "y")),)),
                    ("b", ("x", "y"), (nested(20, ("back", "a", ("x", "y"))),)),
                    ("c", ("x", "y"), (nested(levels, ("call", "b", ("y", "x"))),))]

        self.same(len(Program(chained(17)).routines), 3)
        self.fails(BadProgram((2,), "deep"), Program, chained(18))
        self.fails(BadProgram((2,), "deep"), Program, [*chained(18), None])
        # what is wrong with a statement behind comes first
        late = chained(18)
        late[2] = ("c", ("x", "y"), late[2][2] + (("swap", "x", "x"),))
        self.fails(BadProgram((2, 1), "same"), Program, late)

    def test_the_depth_of_a_chain_of_calls(self):
        routines = [("r0", ("x",), ())] + [(f"r{k}", ("x",), ((nested(2, ("call", f"r{k - 1}", ("x",)))),)) for k in range(1, 20)]
        self.same(len(Program(routines).routines), 20)
        self.same(len(Program([*routines[:19], ("z", ("x",), (nested(5, ("call", "r18", ("x",))),))]).routines), 20)
        last = ("z", ("x",), (nested(6, ("call", "r18", ("x",))),))
        self.fails(BadProgram((19,), "deep"), Program, [*routines[:19], last])
        deeper = routines[:1] + [(f"r{k}", ("x",), ((nested(3, ("call", f"r{k - 1}", ("x",)))),)) for k in range(1, 20)]
        self.fails(BadProgram((16,), "deep"), Program, deeper)

    def test_the_first_of_two_faults(self):
        self.refused((0,), "form", [("add", "z", Z, None), None])
        self.refused((0,), "name", [("add", "z", Z), None])
        self.refused((0,), "name", [("swap", "z", "z")])
        self.refused((0,), "unknown", [("add", "x", pair("+", X, Z))])
        self.refused((0,), "same", [("call", "r", ("x", "x"))])
        self.refused((0,), "same", [("call", "p", ("x", "x", "x"))])
        self.refused((0,), "routine", [("call", "r", ("x",))])
        # a statement comes ahead of those in its blocks, a block ahead of what stands behind it
        self.refused((0,), "unknown", [("if", Z, (None,), (), X)])
        self.refused((0, 0, 0), "same", [("if", X, (("swap", "x", "x"),), (None,), X), None])
        self.refused((0, 1, 0), "form", [("if", X, (), (None,), X), None])
        self.refused((0, 0, 0, 0, 0), "form", [nested(2, None, "from"), None])
        # a routine comes ahead of the next one
        self.fails(BadProgram((0, 0), "form"), Program, [("a", (), (None,)), None])
        self.fails(BadProgram((0,), "name"), Program, [("A", ("x", "x"), (None,))])
        self.fails(BadProgram((0,), "parameters"), Program, [("a", ("x", "x"), (None,))])

    def test_spoilt_programs(self):
        words = set()
        for seed in range(400):
            routines = self.spoilt(made_routines(seed), Rule(seed))
            told = fault_told(routines)
            if told is None:
                self.same(Program(routines).routines, routines)
            else:
                words.add(told[1])
                self.fails(BadProgram(*told), Program, routines)
        self.assertLessEqual({"name", "unknown", "same", "routine", "many"}, words)

    def spoilt(self, routines, rule):
        """The routines with the names of one statement changed by a rule."""
        at = rule.below(len(routines))
        called, parameters, body = routines[at]
        return (*routines[:at], (called, parameters, self.changed(body, rule)), *routines[at + 1:])

    def changed(self, body, rule):
        if not body:
            return (("add", "p0", name("v1")),)
        at = rule.below(len(body))
        statement = list(body[at])
        word, some = statement[0], ("p0", "p1", "v1", "v2", "r0")
        if word in ("if", "from", "local") and rule.below(3):
            block = 3 if word == "local" or rule.below(2) else 2
            statement[block] = self.changed(statement[block], rule)
        elif word in ("if", "from"):
            statement[rule.one_of((1, 4))] = name(rule.one_of(some))
        elif word in ("call", "back"):
            statement[1 + rule.below(2)] = rule.one_of((("p0", "p0"), ("p0",), ("p1", "p0"), ("v1", "p0")))
            statement[1] = rule.one_of(("r0", "r1", "r9")) if isinstance(statement[1], tuple) else statement[1]
        elif word == "swap" or rule.below(2):
            statement[1] = rule.one_of(some)
        else:
            statement[2] = pair("+", name(rule.one_of(some)), number(1))
        return (*body[:at], tuple(statement), *body[at + 1:])

    def test_nothing_else_is_raised(self):
        for thing in ([ELDER, 3], [("a", (), (3,))], [("a", (), ((),))], [("a", (), ("x",))]):
            self.assertRaises(UndoError, Program, thing)

"""[11.1] to [11.3]: operands, tests and rows of code, and code itself."""

from helpers import NO_NUMBERS, NO_SEQUENCES, Checks
from undocells.coderows import Code, is_code_row, operand_word, test_holds as holds
from undocells.errors import BadCode

SLOT0, SLOT1, ONE = ("slot", 0), ("slot", 1), ("number", 1)
BIG = 10 ** 40
GOOD_ROWS = (
    ("add", 0, ("+",), (SLOT1, ONE)), ("sub", 0, ("-",), (SLOT1, SLOT1)), ("xor", 1, ("same",), (SLOT0,)),
    ("add", 0, ("pick",), (ONE, SLOT1, ONE)), ("xor", 0, ("<<", 4095), (SLOT1,)), ("xor", 0, (">>", 0), (("number", 4095),)),
    ("sub", 0, ("table", (1, 4095)), (SLOT1,)), ("add", 0, ("table", (0,)), (SLOT0,)), ("xor", 0, ("==",), (ONE, ONE)),
    ("swap", 0, 1), ("swap", 0, 0), ("zero", 1), ("go", (SLOT0, 1), 0), ("come", (ONE, 0), 5), ("go", (ONE, 1), BIG),
    ("come", (("slot", 0), 1), BIG), ("enter", 0), ("leave", 3), ("call", BIG), ("back", 0), ("enter", BIG))
BAD_PARTS = (-1, *NO_NUMBERS)
NO_OPERANDS = (None, 5, "ab", [], ["slot", 0], ("slot",), ("slot", 0, 0), ("place", 0), ("number", 4096), ("number", -1),
               ("slot", -1), ("slot", True), ("number", False), (0, 0), ("slot", None), ("slot", "0"), (("slot",), 0))
NO_KINDS = (None, "+", ["+"], (), ("+", 1), ("x",), ("<<",), ("<<", -1), ("<<", 4096), ("<<", True), ("table", ()),
            ("table", (1, 2, 3)), ("table", [1, 2]), ("table", (4096,)), ("table", (True,)), (["+"],))


def bad_rows():
    yield from (None, 5, "add", [], (), (1,), (None,), ("ADD", 0, ("same",), (ONE,)), ("step",), (("add",), 0), (["zero"], 0), ({}, 0),
                ["zero", 0], ["swap", 0, 1], ("add",), ("sub", 0), ("xor", 0, ("same",)), ("zero",), ("swap", 0),
                ("go", (SLOT0, 1)), ("come", 1), ("enter",), ("leave",), ("call",), ("back",),
                ("zero", 0, 0), ("swap", 0, 1, 2), ("go", (SLOT0, 1), 0, 0), ("enter", 0, 0), ("call", 0, ()),
                ("add", 0, ("same",), (ONE,), 0), ("same", 0), ("local", 0), ("if", 0))
    for part in BAD_PARTS:
        yield from (("add", part, ("same",), (ONE,)), ("zero", part), ("swap", part, 0), ("swap", 0, part),
                    ("go", (SLOT0, 1), part), ("come", (SLOT0, 1), part), ("enter", part), ("leave", part),
                    ("call", part), ("back", part), ("go", (SLOT0, part), 0), ("come", (SLOT0, part), 0))
    for operand in NO_OPERANDS:
        yield from (("xor", 0, ("same",), (operand,)), ("sub", 0, ("+",), (ONE, operand)), ("go", (operand, 1), 0),
                    ("come", (operand, 0), 0))
    for kind in NO_KINDS:
        yield from (("xor", 0, kind, (ONE,)), ("add", 0, kind, (ONE, ONE)))
    yield from (("go", (SLOT0, 2), 0), ("go", [SLOT0, 1], 0), ("go", (SLOT0,), 0), ("go", (SLOT0, 1, 1), 0), ("go", None, 0),
                ("xor", 0, ("same",), [ONE]), ("xor", 0, ("same",), ()), ("xor", 0, ("same",), (ONE, ONE)),
                ("xor", 0, ("+",), (ONE,)), ("xor", 0, ("pick",), (ONE, ONE)), ("xor", 0, ("+",), ONE),
                ("xor", 0, ("table", (1, 2)), (ONE, ONE)), ("come", (SLOT0, -1), 0))


class Words(Checks):

    def test_operands(self):
        for width in (1, 3, 12):
            words = tuple(k % 2 ** width for k in (5, 0, 1, 4095))
            for slot, word in enumerate(words):
                self.same(operand_word(("slot", slot), words, width), word)
                self.same(operand_word(("slot", slot), list(words), width), word)
            for number in (0, 1, 2, 7, 8, 4095):
                self.same(operand_word(("number", number), words, width), number % 2 ** width)

    def test_tests(self):
        words = (5, 0, 1)
        for slot, word in enumerate(words):
            self.same(holds((("slot", slot), 1), words, 3), word != 0)
            self.same(holds((("slot", slot), 0), list(words), 3), word == 0)
        for number, width, zero in ((8, 3, True), (8, 4, False), (0, 12, True), (4095, 1, False), (4094, 1, True)):
            self.same(holds((("number", number), 0), words, width), zero)
            self.same(holds((("number", number), 1), words, width), not zero)


class Rows(Checks):

    def test_what_is_a_row(self):
        for row in GOOD_ROWS:
            self.same(is_code_row(row), True)
        for row in bad_rows():
            self.same(is_code_row(row), False)
            self.same(is_code_row([row]), False)

    def test_each_word_with_each_number_of_parts(self):
        lengths = {"add": 4, "sub": 4, "xor": 4, "swap": 3, "zero": 2, "go": 3, "come": 3, "enter": 2, "leave": 2,
                   "call": 2, "back": 2}
        for row in GOOD_ROWS:
            self.assertEqual(lengths[row[0]], len(row))
            for word in lengths:
                if is_code_row((word, *row[1:])):
                    forms = (("add", "sub", "xor"), ("go", "come"), ("swap",), ("zero", "enter", "leave", "call", "back"))
                    self.assertTrue(any(word in form and row[0] in form for form in forms))


class Codes(Checks):

    def test_its_attributes(self):
        rows = [("enter", 0), ("zero", 0), ("leave", 0), ("enter", 1), ("leave", 1), ("zero", 1), ("call", 1)]
        origins = [(k,) for k in range(7)]
        names = ["x", "y"]
        code = Code(3, names, 4, rows, origins)
        self.same((code.width, code.names, code.slots, code.rows, code.origins, code.start, code.spans),
                  (3, ("x", "y"), 4, tuple(rows), tuple(origins), 5, ((0, 2), (3, 4))))
        self.same((len(code), list(code), tuple(code)), (7, rows, tuple(rows)))
        names.append("z")
        rows.clear()
        origins.clear()
        self.same((code.names, len(code.rows), len(code.origins)), (("x", "y"), 7, 7))

    def test_origins_are_kept_as_tuples(self):
        rows = [("zero", 0)] * 3
        self.same(Code(3, ("x",), 1, rows, [[0, 1], (0, 2), [0]]).origins, ((0, 1), (0, 2), (0,)))
        self.same(Code(3, ("x",), 1, rows, ["a", None, 5]).origins, ("a", None, 5))

    def test_without_a_section_and_without_a_row(self):
        code = Code(1, (), 0, ())
        self.same((code.start, code.spans, len(code), list(code), code.origins), (0, (), 0, [], ()))
        code = Code(12, (), 1, [("zero", 0)])
        self.same((code.start, code.spans, len(code), code.origins), (0, (), 1, ()))

    def test_spans_and_start_of_any_rows(self):
        z = ("zero", 0)
        for rows, start, spans in (
                ([("enter", 0)], 0, ((0, 1),)), ([("leave", 0)], 1, ()), ([z, ("leave", 5), z], 2, ()),
                ([("enter", 0), ("enter", 0), ("leave", 1), z, ("leave", 1)], 5, ((0, 2), (1, 2))),
                ([("leave", 0), ("enter", 3), z], 1, ((1, 3),)),
                ([("enter", 7), ("leave", 7), ("enter", 7), z], 2, ((0, 1), (2, 4)))):
            code = Code(2, ("x",), 1, rows)
            self.same((code.start, code.spans), (start, spans))

    def test_20_sections(self):
        rows = []
        for k in range(20):
            rows += [("enter", k)] + [("zero", 0)] * k + [("leave", k)]
        code = Code(2, ("x",), 1, rows)
        self.same(code.start, len(rows))
        self.same(code.spans, tuple((k * 2 + k * (k - 1) // 2, k * 2 + k * (k - 1) // 2 + k + 1) for k in range(20)))

    def test_equal_codes(self):
        one = Code(3, ("x",), 2, (("zero", 0),), ((0, 0),))
        self.assertTrue(one == Code(3, ["x"], 2, [("zero", 0)], [(0, 0)]))
        self.assertFalse(one != Code(3, ["x"], 2, [("zero", 0)], [(0, 0)]))
        for other in (Code(4, ("x",), 2, (("zero", 0),), ((0, 0),)), Code(3, ("y",), 2, (("zero", 0),), ((0, 0),)),
                      Code(3, ("x",), 3, (("zero", 0),), ((0, 0),)), Code(3, ("x",), 2, (("zero", 1),), ((0, 0),)),
                      Code(3, ("x",), 2, (("zero", 0),), ((0, 1),)), Code(3, ("x",), 2, (("zero", 0),)), 5, None,
                      (("zero", 0),)):
            self.assertFalse(one == other)
            self.assertTrue(one != other)

    def test_slots_and_rows_as_many_as_are_let(self):
        self.same(Code(1, (), 200000, [("zero", 199999)]).slots, 200000)
        self.fails(BadCode(0, "slot"), Code, 1, (), 200000, [("zero", 200000)])
        self.fails(BadCode(-1, "slots"), Code, 1, (), 200001, [])
        self.same(len(Code(1, (), 1, [("zero", 0)] * 100000)), 100000)
        self.fails(BadCode(-1, "rows"), Code, 1, (), 1, [("zero", 0)] * 100001)

    def test_wrong_arguments_in_their_order(self):
        for width in (0, 13, *NO_NUMBERS):
            self.fails(BadCode(-1, "width"), Code, width, None, None, None, None)
        for names in (*NO_SEQUENCES, ["x", "x"], ["x", 5], [None], [b"x"], [["x"]], ("y", "x", "y")):
            self.fails(BadCode(-1, "names"), Code, 3, names, None, None, None)
        self.same(Code(3, ("", "no name", "if"), 3, ()).names, ("", "no name", "if"))
        for slots in (1, 0, -1, 200001, *NO_NUMBERS):
            self.fails(BadCode(-1, "slots"), Code, 3, ("x", "y"), slots, None, None)
        for rows in NO_SEQUENCES:
            self.fails(BadCode(-1, "rows"), Code, 3, ("x", "y"), 2, rows, None)
        for row in bad_rows():
            self.fails(BadCode(1, "row"), Code, 3, (), 2, [("zero", 1), row, row], None)
        for origins in (*NO_SEQUENCES, ((0,),), ((0,),) * 3, [None] * 3):
            self.fails(BadCode(-1, "origins"), Code, 3, (), 2, [("zero", 1), ("zero", 0)], origins)

    def test_slots_that_are_not_there(self):
        for row in (("add", 2, ("same",), (ONE,)), ("sub", 0, ("+",), (ONE, ("slot", 2))), ("xor", BIG, ("same",), (ONE,)),
                    ("swap", 2, 0), ("swap", 0, 2), ("zero", 2), ("go", (("slot", 2), 1), 0), ("come", (("slot", BIG), 0), 0),
                    ("xor", 0, ("pick",), (("slot", 2), SLOT1, SLOT1))):
            self.fails(BadCode(1, "slot"), Code, 3, (), 2, [("zero", 1), row, row, None], None)
        self.fails(BadCode(0, "slot"), Code, 3, (), 0, [("zero", 0)])
        for row in GOOD_ROWS:
            self.same(Code(3, (), 2, [row]).rows, (row,))

    def test_of_two_faults_the_first_is_told(self):
        self.fails(BadCode(0, "slot"), Code, 3, (), 1, [("zero", 1), ("zero", -1)])
        self.fails(BadCode(0, "row"), Code, 3, (), 1, [("zero", -1), ("zero", 1)])
        self.fails(BadCode(0, "row"), Code, 3, (), 1, [("add", 5, ("+",), (ONE,))])
        self.fails(BadCode(1, "slot"), Code, 3, (), 1, [("zero", 0), ("zero", 1)], None)

    def test_numbers_of_rows_and_sections_may_be_of_any_size(self):
        rows = [("go", (ONE, 1), BIG), ("enter", BIG), ("call", BIG), ("leave", BIG)]
        self.same(Code(3, (), 0, rows).rows, tuple(rows))

"""[2.1] to [2.3]: words, kinds and their meaning."""

from helpers import NO_NUMBERS, NO_SEQUENCES, Checks
from undocells.errors import BadInputs, BadKind, BadWidth
from undocells.words import check_inputs, check_kind, check_width, operand_count, step_word

PAIRS = ("+", "-", "*", "&", "|", "^", "==", "<")


class Widths(Checks):

    def test_widths_from_1_to_12(self):
        for width in range(1, 13):
            self.same(check_width(width), width)

    def test_no_other_width(self):
        for width in (0, 13, -1, 10 ** 30, *NO_NUMBERS):
            self.fails(BadWidth(), check_width, width)


class Inputs(Checks):

    def test_words_are_returned_as_a_tuple(self):
        self.same(check_inputs([0, 7, 3], 3, 3), (0, 7, 3))
        self.same(check_inputs((), 0, 1), ())
        self.same(check_inputs([], 0, 1), ())

    def test_later_changes_have_no_effect(self):
        given = [1, 2]
        words = check_inputs(given, 2, 4)
        given[0] = 9
        self.same(words, (1, 2))

    def test_many_comes_first(self):
        for thing in NO_SEQUENCES:
            self.fails(BadInputs(-1, "many"), check_inputs, thing, 2, 4)
        self.fails(BadInputs(-1, "many"), check_inputs, [1], 2, 4)
        self.fails(BadInputs(-1, "many"), check_inputs, [99, True, None], 2, 4)

    def test_first_entry_that_is_no_word(self):
        for width in range(1, 13):
            most = 2 ** width - 1
            self.same(check_inputs([most, 0], 2, width), (most, 0))
            self.fails(BadInputs(1, "word"), check_inputs, [most, most + 1], 2, width)
            self.fails(BadInputs(0, "word"), check_inputs, [-1, most + 1], 2, width)
        for thing in NO_NUMBERS:
            self.fails(BadInputs(1, "word"), check_inputs, [0, thing, 99], 3, 4)


class Kinds(Checks):

    def test_all_kinds_are_returned(self):
        kinds = [(sign,) for sign in PAIRS] + [("same",), ("pick",)]
        kinds += [(sign, n) for sign in ("<<", ">>") for n in (0, 1, 12, 4095)]
        kinds += [("table", tuple(range(n))) for n in (1, 2, 4, 8, 16)] + [("table", (4095,))]
        for kind in kinds:
            self.same(check_kind(kind), kind)

    def test_numbers_of_a_table_may_be_a_list(self):
        self.same(check_kind(("table", [5, 4095])), ("table", (5, 4095)))

    def test_tables_of_other_numbers_of_entries(self):
        for many in range(40):
            kind = ("table", (1,) * many)
            if many in (1, 2, 4, 8, 16):
                self.same(check_kind(kind), kind)
            else:
                self.fails(BadKind(), check_kind, kind)

    def test_shifts_and_entries_from_0_to_4095(self):
        for n in (-1, 4096, *NO_NUMBERS):
            for kind in (("<<", n), (">>", n), ("table", (n,)), ("table", [0, n]), ("table", (n, 1, 2, 3))):
                self.fails(BadKind(), check_kind, kind)

    def test_everything_else_is_no_kind(self):
        wrong = [(), ("+", 1), ("same", 1), ("pick", 1), ("<<",), (">>",), ("table",), ("<<", 1, 2), ("+", "+"),
                 ("==", 0), ("table", 1), ("table", (1,), 2), ("table", "01"), ("table", {0: 1}), ("<=",), ("",),
                 (None,), (1,), ([],), (("+",),), ["+"], ["<<", 1], ["table", (1,)], "+", "same", None, 1, {"+": 1},
                 ("Same",), ("call",), ("number", 1), (b"+",)]
        for kind in wrong:
            self.fails(BadKind(), check_kind, kind)

    def test_operand_counts(self):
        for sign in PAIRS:
            self.same(operand_count((sign,)), 2)
        for kind in (("<<", 3), (">>", 0), ("table", (1, 2)), ("same",)):
            self.same(operand_count(kind), 1)
        self.same(operand_count(("pick",)), 3)


class StepWords(Checks):

    def test_pairs_at_all_words_of_small_widths(self):
        for width in (1, 2, 3, 4):
            many = 2 ** width
            meant = {
                "+": lambda a, b: (a + b) % many, "-": lambda a, b: (a - b) % many,
                "*": lambda a, b: (a * b) % many, "&": lambda a, b: a & b, "|": lambda a, b: a | b,
                "^": lambda a, b: a ^ b, "==": lambda a, b: 1 if a == b else 0, "<": lambda a, b: 1 if a < b else 0}
            for one in range(many):
                for other in range(many):
                    for sign in PAIRS:
                        self.same(step_word((sign,), (one, other), width), meant[sign](one, other))

    def test_pairs_at_width_12(self):
        for one in range(0, 4096, 117):
            for other in range(0, 4096, 131):
                self.same(step_word(("+",), (one, other), 12), (one + other) % 4096)
                self.same(step_word(("-",), (one, other), 12), (one - other) % 4096)
                self.same(step_word(("*",), (one, other), 12), (one * other) % 4096)
                self.same(step_word(("<",), (one, other), 12), 1 if one < other else 0)

    def test_shifts(self):
        for width in range(1, 13):
            for word in {0, 1, 2 ** width - 1, 2 ** (width - 1), 5 % 2 ** width}:
                for n in list(range(16)) + [4095]:
                    self.same(step_word(("<<", n), (word,), width), word * 2 ** n % 2 ** width)
                    self.same(step_word((">>", n), (word,), width), word // 2 ** n)

    def test_shifts_of_the_width_and_more_are_0(self):
        for width in range(1, 13):
            for n in (width, width + 1, 4095):
                self.same(step_word(("<<", n), (2 ** width - 1,), width), 0)
                self.same(step_word((">>", n), (2 ** width - 1,), width), 0)
            self.same(step_word(("<<", width - 1), (1,), width), 2 ** (width - 1))
            self.same(step_word((">>", width - 1), (2 ** width - 1,), width), 1)

    def test_pick(self):
        self.same(step_word(("pick",), (0, 5, 6), 3), 6)
        for test in range(1, 8):
            self.same(step_word(("pick",), (test, 5, 6), 3), 5)

    def test_table(self):
        for entries in (1, 2, 4, 8, 16):
            numbers = tuple((k * 977 + 4000) % 4096 for k in range(entries))
            for width in range(1, 13):
                for word in range(0, 2 ** width, max(1, 2 ** width // 64)):
                    got = step_word(("table", numbers), (word,), width)
                    self.same(got, numbers[word % entries] % 2 ** width)

    def test_same(self):
        for word in range(16):
            self.same(step_word(("same",), (word,), 4), word)

    def test_a_list_of_words_will_do(self):
        self.same(step_word(("-",), [1, 2], 4), 15)

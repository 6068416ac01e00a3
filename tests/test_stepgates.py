"""[13.4] to [13.6]: gates that turn by operand bits, that add words up, and that turn a word by a step."""

from itertools import product

from helpers import NO_NUMBERS, Checks, Rule
from undocells.adders import add_gates, both_by, flip_by
from undocells.errors import BadKind, BadWidth
from undocells.gates import bits_of_word, check_gates, run_gates, word_of_bits
from undocells.stepgates import helper_count, most_gates, step_gates
from undocells.words import step_word

PAIRS = ("+", "-", "*", "&", "|", "^", "==", "<")


def bit_of(operand, bits):
    """What an operand bit carries."""
    return {"on": 1, "off": 0}[operand] if isinstance(operand, str) else bits[operand]


def word_on(wires, bits):
    return word_of_bits([bit_of(wire, bits) for wire in wires])


def all_kinds(width):
    for sign in PAIRS:
        yield (sign,)
    yield from (("pick",), ("same",))
    for by in sorted({0, 1, width - 1, width, width + 1, 4095}):
        yield from (("<<", by), (">>", by))
    for count in (1, 2, 4, 8, 16):
        yield ("table", tuple((k * 2731 + 5 * count + 1) % 4096 for k in range(count)))
    yield from (("table", (0,)), ("table", (4095,) * 16), ("table", (0,) * 8))


def operand_count(kind):
    return {"pick": 3, "<<": 1, ">>": 1, "table": 1, "same": 1}.get(kind[0], 2)


class ByBits(Checks):

    def test_flip_by(self):
        self.same((flip_by("off", 3), flip_by("on", 3), flip_by(1, 3)), ((), (("not", 3),), (("flip", 1, 3),)))

    def test_each_turns_the_target_just_if_told(self):
        operands = (0, 1, "on", "off")
        for bits in product((0, 1), repeat=3):
            for one in operands:
                gates = flip_by(one, 2)
                self.assertLessEqual(len(check_gates(gates, 3)), 1)
                self.same(run_gates(bits, gates), (*bits[:2], bits[2] ^ bit_of(one, bits)))
                for other in operands:
                    gates = both_by(one, other, 2)
                    self.assertLessEqual(len(check_gates(gates, 3)), 1)
                    self.same(run_gates(bits, gates), (*bits[:2], bits[2] ^ bit_of(one, bits) & bit_of(other, bits)))


class Adders(Checks):

    def check_sum(self, ones, sums, carries, wires, rows):
        """The gates add as told for these bits of all wires."""
        gates = add_gates(ones, sums, carries)
        self.assertIsInstance(gates, tuple)
        self.same(add_gates(list(ones), list(sums), list(carries)), gates)
        self.same(check_gates(gates, wires), gates)
        used = {wire for gate in gates for wire in gate[1:]}
        self.assertLessEqual(used, set(sums) | set(carries) | {wire for wire in ones if not isinstance(wire, str)})
        for bits in rows:
            total = (word_on(sums, bits) + word_on(ones, bits)) % 2 ** len(sums)
            told = list(bits)
            for at, wire in enumerate(sums):
                told[wire] = total >> at & 1
            self.same(run_gates(bits, gates), tuple(told))

    def test_all_operand_bits_and_words_of_few_wires(self):
        for width in (1, 2, 3):
            sums, carries = tuple(range(3, 3 + width)), tuple(range(3 + width, 2 + 2 * width))
            wires = 2 + 2 * width
            rows = [bits + (0,) * (width - 1) for bits in product((0, 1), repeat=3 + width)]
            for ones in product((0, 1, 2, "on", "off"), repeat=width):
                self.check_sum(ones, sums, carries, wires, rows)

    def test_wires_in_any_order(self):
        ones, sums, carries = (9, 0, 9, "on", 4), (7, 2, 11, 1, 3), (10, 5, 8, 6)
        rows = []
        for number in range(2 ** 8):
            bits = [0] * 12
            for at, wire in enumerate((9, 0, 4, 7, 2, 11, 1, 3)):
                bits[wire] = number >> at & 1
            rows.append(tuple(bits))
        self.check_sum(ones, sums, carries, 12, rows)

    def test_sums_of_one_wire(self):
        for one in (0, "on", "off"):
            self.check_sum((one,), (1,), (), 2, list(product((0, 1), repeat=2)))

    def test_12_wires(self):
        rule = Rule(5)
        ones = tuple(range(12))
        rows = [tuple(rule.below(2) for _ in range(24)) + (0,) * 11 for _ in range(200)]
        rows += [(1,) * 24 + (0,) * 11, (1,) * 12 + (1,) + (0,) * 22]
        self.check_sum(ones, tuple(range(12, 24)), tuple(range(24, 35)), 35, rows)


class Counts(Checks):

    def test_helpers(self):
        for width in range(1, 13):
            for sign, told in (("same", 0), ("&", 0), ("|", 0), ("^", 0), ("+", width - 1), ("-", width - 1), ("==", width),
                               ("<", width), ("pick", width), ("*", 2 * width)):
                self.same(helper_count((sign,), width), told)
            for by in (0, 1, 12, 4095):
                self.same((helper_count(("<<", by), width), helper_count((">>", by), width)), (0, 0))
            for u in range(5):
                self.same(helper_count(("table", (0,) * 2 ** u), width), min(u, width))
                self.same(helper_count(("table", [1] * 2 ** u), width), min(u, width))

    def test_most_gates(self):
        for width in range(1, 13):
            for kind in all_kinds(width):
                told = len(kind[1]) * (width + 20) if kind[0] == "table" else 30 * width * (width + 1)
                self.same(most_gates(kind, width), told)
            self.same(most_gates(("table", [7, 7]), width), 2 * (width + 20))

    def test_wrong_arguments_in_their_order(self):
        calls = (helper_count, most_gates, lambda kind, width: step_gates(kind, width, None, None, None))
        for call in calls:
            for kind in (None, "+", ("x",), ("<<",), ("<<", 4096), ("table", (1, 2, 3)), ["+"], (), ("+", 1)):
                self.fails(BadKind(), call, kind, None)
            for width in (0, 13, *NO_NUMBERS):
                self.fails(BadWidth(), call, ("+",), width)
                self.fails(BadWidth(), call, ("table", [1]), width)


class Steps(Checks):

    def check_step(self, kind, width, operands, target, helpers, wires, rows):
        """The gates turn the target by the step for these bits of all wires, and nothing else."""
        gates = step_gates(kind, width, operands, target, helpers)
        self.assertIsInstance(gates, tuple)
        self.same(check_gates(gates, wires), gates)
        self.assertLessEqual(len(gates), most_gates(kind, width))
        allowed = {wire for operand in operands for wire in operand if not isinstance(wire, str)}
        self.assertLessEqual({wire for gate in gates for wire in gate[1:]}, allowed | set(target) | set(helpers))
        for bits in rows:
            words = [word_on(operand, bits) for operand in operands]
            turned = word_on(target, bits) ^ step_word(kind, words, width)
            told = list(bits)
            for at, wire in enumerate(target):
                told[wire] = turned >> at & 1
            if run_gates(bits, gates) != tuple(told):
                self.same((kind, width, operands, bits, run_gates(bits, gates)), (kind, width, operands, bits, tuple(told)))

    def plain(self, kind, width):
        """Operands on wires of their own, then the target, then the helpers, and how many wires there are."""
        many = operand_count(kind)
        operands = [tuple(range(k * width, (k + 1) * width)) for k in range(many)]
        target = tuple(range(many * width, (many + 1) * width))
        count = helper_count(kind, width)
        helpers = tuple(range((many + 1) * width, (many + 1) * width + count))
        return operands, target, helpers, (many + 1) * width + count

    def test_all_words_on_operands_and_target_at_small_widths(self):
        for width in (1, 2, 3):
            for kind in all_kinds(width):
                operands, target, helpers, wires = self.plain(kind, width)
                free = wires - len(helpers)
                if free > 9:
                    continue
                rows = [bits + (0,) * len(helpers) for bits in product((0, 1), repeat=free)]
                self.check_step(kind, width, operands, target, helpers, wires, rows)
                self.check_step(kind, width, tuple(operands), list(target), list(helpers), wires, rows[::7])

    def test_pick_at_width_3(self):
        operands, target, helpers, wires = self.plain(("pick",), 3)
        rows = [bits_of_word(number, 12) + (0, 0, 0) for number in range(0, 4096, 3)]
        self.check_step(("pick",), 3, operands, target, helpers, wires, rows)

    def test_every_width_to_12(self):
        for width in range(4, 13):
            for seed, kind in enumerate(all_kinds(width)):
                operands, target, helpers, wires = self.plain(kind, width)
                rule = Rule(seed)
                rows = []
                for case in range(6):
                    words = [rule.one_of((0, 1, 2 ** width - 1, 2 ** (width - 1), rule.below(2 ** width)))
                             for _ in operands]
                    if case == 0:
                        words = [words[0]] * len(words)
                    old = rule.below(2 ** width)
                    bits = [bit for word in (*words, old) for bit in bits_of_word(word, width)]
                    rows.append(tuple(bits) + (0,) * len(helpers))
                self.check_step(kind, width, operands, target, helpers, wires, rows)

    def test_operands_that_share_wires_that_are_on_and_off_and_that_are_equal(self):
        for width in (1, 2, 3):
            for kind in all_kinds(width):
                many, count = operand_count(kind), helper_count(kind, width)
                target = tuple(range(3, 3 + width))
                helpers = tuple(range(3 + width, 3 + width + count))
                rows = [bits + (0,) * count for bits in product((0, 1), repeat=3 + width)]
                for seed in range(14):
                    rule = Rule(seed)
                    operands = [tuple(rule.one_of((0, 1, 2, "on", "off")) for _ in range(width)) for _ in range(many)]
                    if seed == 0:
                        operands = [operands[0]] * many
                    if seed == 1:
                        operands = [("on",) * width] * many
                    if seed == 2:
                        operands = [("off",) * width] * many
                    self.check_step(kind, width, operands, target, helpers, 3 + width + count, rows[::1 + seed % 2])

    def test_wires_in_any_order(self):
        for kind in all_kinds(2):
            count = helper_count(kind, 2)
            helpers = (7, 1, 8, 3)[:count]
            operands = [(6, 0), (0, 6), (2, 6)][:operand_count(kind)]
            rows = []
            for number in range(32):
                bits = [0] * 9
                for at, wire in enumerate((6, 0, 2, 5, 4)):
                    bits[wire] = number >> at & 1
                rows.append(tuple(bits))
            self.check_step(kind, 2, operands, (5, 4), helpers, 9, rows)

    def test_wires_beside_are_not_touched(self):
        gates = step_gates(("*",), 1, [[0], [1]], [2], [3, 4])
        for bits in product((0, 1), repeat=3):
            self.same(run_gates(bits + (0, 0, 1), gates), bits[:2] + (bits[2] ^ bits[0] & bits[1], 0, 0, 1))

"""[13.1] to [13.3]: bits, gates, and what gates make of bits."""

import inspect
from itertools import product

from helpers import NO_NUMBERS, NO_SEQUENCES, Checks, Rule
from undocells.errors import BadBits, BadGate
from undocells.gates import (back_gates, bits_along, bits_of_word, check_bits, check_gates, count_gates, moved_gates,
                             run_gates, word_of_bits)


def all_gates(wires):
    for t in range(wires):
        yield ("not", t)
        for c in range(wires):
            if c != t:
                yield ("flip", c, t)
                for d in range(wires):
                    if d not in (c, t):
                        yield ("both", c, d, t)


def turned(bits, gate):
    """The bits behind one gate, by the words of [13.1]."""
    *ones, t = gate[1:]
    return tuple(1 - bit if at == t and all(bits[c] == 1 for c in ones) else bit for at, bit in enumerate(bits))


def some_gates(seed, wires, most=12):
    rule = Rule(seed)
    every = list(all_gates(wires))
    return tuple(rule.one_of(every) for _ in range(rule.below(most))) if every else ()


BAD_GATES = (None, 5, "not", (), [], (0,), ("nor", 0), ("not",), ("not", 0, 1), ("flip", 0), ("flip", 0, 1, 2), ("both", 0, 1),
             ("both", 0, 1, 2, 3), (["not"], 0), (None, 0), {"not": 0}, ("Not", 0), (("not",), 0))


class Bits(Checks):

    def test_they_are_returned_as_a_tuple(self):
        for many in range(4):
            for bits in product((0, 1), repeat=many):
                for given in (bits, list(bits)):
                    self.same(check_bits(given), bits)
                    self.same(check_bits(given, many), bits)
                    self.same(check_bits(given, None), bits)
                    self.fails(BadBits(), check_bits, given, many + 1)
                    self.fails(BadBits(), check_bits, given, many - 1)

    def test_what_are_no_bits(self):
        for bits in NO_SEQUENCES:
            self.fails(BadBits(), check_bits, bits)
            self.fails(BadBits(), run_gates, bits, None)
            self.fails(BadBits(), list, bits_along(bits, None))
        for bit in (2, -1, *NO_NUMBERS):
            for bits in ((bit,), [0, bit], (1, 0, bit, 0)):
                self.fails(BadBits(), check_bits, bits)
                self.fails(BadBits(), check_bits, bits, len(bits))
                self.fails(BadBits(), run_gates, bits, None)


class Gates(Checks):

    def test_they_are_returned_as_tuples(self):
        for wires in range(5):
            for gate in all_gates(wires):
                self.same(check_gates([gate], wires), (gate,))
                self.same(check_gates(((*gate,), list(gate)), wires), (gate, gate))
            self.same(check_gates([], wires), ())

    def test_each_word(self):
        for gates in NO_SEQUENCES:
            self.fails(BadGate(-1, "gate"), check_gates, gates, 3)
            self.fails(BadGate(-1, "gate"), run_gates, (0, 1, 0), gates)
            self.fails(BadGate(-1, "gate"), list, bits_along((0, 1, 0), gates))
        for gate in BAD_GATES:
            self.fails(BadGate(1, "gate"), check_gates, [("not", 0), gate, gate], 3)
        for wire in (3, -1, 10 ** 20, *NO_NUMBERS):
            for gate in (("not", wire), ("flip", wire, 0), ["flip", 0, wire], ("both", wire, 0, 1), ("both", 0, wire, 1),
                         ("both", 0, 1, wire)):
                self.fails(BadGate(0, "wire"), check_gates, [gate, None], 3)
        for gate in (("flip", 0, 0), ("both", 0, 0, 1), ("both", 0, 1, 0), ("both", 1, 0, 0), ["both", 2, 2, 2]):
            self.fails(BadGate(0, "twice"), check_gates, [gate, None], 3)
            self.fails(BadGate(0, "twice"), run_gates, (0, 1, 0), [gate])
        self.fails(BadGate(0, "wire"), check_gates, [("not", 0)], 0)

    def test_of_two_faults_the_first_is_told(self):
        self.fails(BadGate(0, "wire"), check_gates, [("both", 3, 3, 0)], 3)
        self.fails(BadGate(0, "gate"), check_gates, [("both", 3, 3)], 3)
        self.fails(BadGate(0, "twice"), check_gates, [("flip", 1, 1), ("flip", 1, 3)], 3)
        self.fails(BadBits(), run_gates, (0, 2), [("not", 5)])

    def test_one_wire(self):
        self.same(run_gates((0,), [("not", 0)]), (1,))
        self.same(run_gates([1], [("not", 0)] * 4), (1,))
        self.same(run_gates((), ()), ())
        self.fails(BadGate(0, "twice"), run_gates, (0,), [("flip", 0, 0)])


class Runs(Checks):

    def test_each_gate_on_all_bits(self):
        for wires in range(5):
            for bits in product((0, 1), repeat=wires):
                for gate in all_gates(wires):
                    self.same(run_gates(bits, (gate,)), turned(bits, gate))
                    self.same(run_gates(turned(bits, gate), [list(gate)]), bits)

    def test_gates_there_and_back(self):
        for seed in range(200):
            wires = 1 + seed % 5
            gates = some_gates(seed, wires)
            for bits in product((0, 1), repeat=wires):
                along = [bits]
                for gate in gates:
                    along.append(turned(along[-1], gate))
                self.same(list(bits_along(bits, gates)), along)
                self.same(run_gates(list(bits), list(gates)), along[-1])
                self.same(run_gates(along[-1], back_gates(gates)), bits)
                self.same(run_gates(bits, gates + back_gates(gates)), bits)
            self.same(back_gates(gates), gates[::-1])
            self.same(back_gates([list(gate) for gate in gates]), gates[::-1])

    def test_along_is_a_generator_that_copies(self):
        self.assertTrue(inspect.isgeneratorfunction(bits_along))
        bits, gates = [0, 0], [["not", 0], ("flip", 0, 1)]
        along = bits_along(bits, gates)
        self.same(next(along), (0, 0))
        bits[1] = 1
        gates[0][1] = 1
        gates.pop()
        self.same(list(along), [(1, 0), (1, 1)])


class Small(Checks):

    def test_count(self):
        for seed in range(100):
            gates = some_gates(seed, 4)
            forms = [gate[0] for gate in gates]
            self.same(count_gates(gates), tuple(forms.count(form) for form in ("not", "flip", "both")))
        self.same(count_gates([]), (0, 0, 0))
        self.same(count_gates([["both", 0, 1, 2], ("not", 0), ("both", 0, 1, 2)]), (1, 0, 2))

    def test_moved(self):
        wires = (7, 3, 0, 9)
        for gate in all_gates(4):
            self.same(moved_gates([gate], wires), ((gate[0], *[wires[wire] for wire in gate[1:]]),))
            self.same(moved_gates([list(gate)], list(wires)), moved_gates((gate,), wires))
        self.same(moved_gates((), ()), ())

    def test_bits_of_words(self):
        for width in range(13):
            for word in {0, 1, 5, 2 ** width // 3, 2 ** width - 1}:
                if word < 2 ** width:
                    bits = bits_of_word(word, width)
                    self.same(bits, tuple(int(text) for text in format(word, f"0{width}b")[::-1]) if width else ())
                    self.same(word_of_bits(bits), word)
                    self.same(word_of_bits(list(bits)), word)
        self.same(word_of_bits(()), 0)

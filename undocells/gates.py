"""Bits on wires, and gates that are each their own way back."""

from undocells.basics import is_sequence, is_within
from undocells.errors import BadBits, BadGate

# how many wires a gate of each form has, in the order of the forms
WIRES = {"not": 1, "flip": 2, "both": 3}


def check_bits(bits, many=None):
    """The tuple of the bits, exactly so many unless that is None."""
    if not is_sequence(bits) or not all([is_within(bit, 0, 1) for bit in bits]):
        raise BadBits()
    if many is not None and len(bits) != many:
        raise BadBits()
    return tuple(bits)


def gate_fault(gate, wires):
    """None, or what is wrong with a gate over so many wires."""
    if not is_sequence(gate) or len(gate) == 0 or not isinstance(gate[0], str) or gate[0] not in WIRES:
        return "gate"
    if len(gate) != 1 + WIRES[gate[0]]:
        return "gate"
    if not all([is_within(wire, 0, wires - 1) for wire in gate[1:]]):
        return "wire"
    return "twice" if len(set(gate[1:])) < len(gate) - 1 else None


def check_gates(gates, wires):
    """The tuple of the gates over so many wires."""
    if not is_sequence(gates):
        raise BadGate(-1, "gate")
    for index, gate in enumerate(gates):
        word = gate_fault(gate, wires)
        if word is not None:
            raise BadGate(index, word)
    return tuple([tuple(gate) for gate in gates])


def do_gate(bits, gate):
    """Do a gate on a list of bits, which changes."""
    if gate[0] == "both":
        bits[gate[3]] ^= bits[gate[1]] & bits[gate[2]]
    elif gate[0] == "flip":
        bits[gate[2]] ^= bits[gate[1]]
    else:
        bits[gate[1]] ^= 1


def bits_behind(bits, gates):
    """The bits behind gates, all unchecked."""
    carried = list(bits)
    for gate in gates:
        do_gate(carried, gate)
    return tuple(carried)


def run_gates(bits, gates):
    """The bits behind the last gate."""
    first = check_bits(bits)
    return bits_behind(first, check_gates(gates, len(first)))


def bits_along(bits, gates):
    """Yield the bits before the first gate and behind each gate."""
    carried = list(check_bits(bits))
    checked = check_gates(gates, len(carried))
    yield tuple(carried)
    for gate in checked:
        do_gate(carried, gate)
        yield tuple(carried)


def back_gates(gates):
    """The gates in the other order."""
    return tuple([tuple(gate) for gate in gates[::-1]])


def count_gates(gates):
    """How many gates of each form there are."""
    words = [gate[0] for gate in gates]
    return tuple([words.count(form) for form in WIRES])


def moved_gates(gates, wires):
    """The gates with wires[k] in the place of each wire k."""
    return tuple([(gate[0], *[wires[wire] for wire in gate[1:]]) for gate in gates])


def bits_of_word(word, width):
    """So many bits of a word, the lowest first."""
    return tuple([word >> position & 1 for position in range(width)])


def word_of_bits(bits):
    """The word of these bits, the lowest first."""
    return sum([bit << position for position, bit in enumerate(bits)])

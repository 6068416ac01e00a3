"""Gates that turn a word by the word of a step, whatever stands on their wires."""

from undocells.adders import both_by, carried_into, flip_by, most_of
from undocells.words import SHIFT_SIGNS, check_kind, check_width


def index_bits(kind, width):
    """How many bits of its word tell the entry of a table."""
    return min(len(kind[1]).bit_length() - 1, width)


def helper_count(kind, width):
    """How many helpers a step of this kind is given."""
    kind = check_kind(kind)
    check_width(width)
    if kind[0] in ("+", "-"):
        return width - 1
    if kind[0] in ("==", "<", "pick"):
        return width
    if kind[0] == "*":
        return 2 * width
    return index_bits(kind, width) if kind[0] == "table" else 0


def most_gates(kind, width):
    """How many gates a step of this kind has at most."""
    kind = check_kind(kind)
    check_width(width)
    return len(kind[1]) * (width + 20) if kind[0] == "table" else 30 * width * (width + 1)


def step_gates(kind, width, operands, target, helpers):
    """Gates that turn the word on target by the step's word; the helpers are 0 before and behind."""
    kind = check_kind(kind)
    check_width(width)
    if kind[0] == "pick":
        gates = pick_gates(operands, target, helpers)
    elif kind[0] == "table":
        gates = table_gates(kind[1], operands[0][:index_bits(kind, width)], target, helpers)
    elif kind[0] == "same":
        gates = turned_by(operands[0], target)
    elif kind[0] in SHIFT_SIGNS:
        gates = shift_gates(kind, operands[0], target)
    elif kind[0] in ("&", "|", "^"):
        gates = bitwise_gates(kind[0], operands, target)
    else:
        gates = number_gates(kind[0], operands, target, helpers)
    return tuple(gates)


def number_gates(sign, operands, target, helpers):
    """Gates for words taken as numbers."""
    one, other = operands
    if sign == "+":
        return sum_gates(one, other, target, helpers)
    if sign == "-":
        return difference_gates(one, other, target, helpers)
    if sign == "*":
        return times_gates(one, other, target, helpers)
    if sign == "<":
        return less_gates(one, other, target, helpers)
    return equal_gates(one, other, target, helpers)


def turned_by(bits, target):
    """Gates that turn each wire of the target by an operand bit."""
    return [gate for bit, wire in zip(bits, target) for gate in flip_by(bit, wire)]


def within(gates, middle):
    """The middle between gates and these back."""
    return [*gates, *middle, *gates[::-1]]


def shift_gates(kind, bits, target):
    """Gates of a step << or >>."""
    sign, by = kind
    if sign == "<<":
        return turned_by(bits, target[by:])
    return turned_by(bits[by:], target)


def bitwise_gates(sign, operands, target):
    """Gates of a step &, | or ^."""
    gates = []
    for one, other, wire in zip(operands[0], operands[1], target):
        if sign != "&":
            gates.extend(flip_by(one, wire) + flip_by(other, wire))
        if sign != "^":
            gates.extend(both_by(one, other, wire))
    return gates


def sum_gates(one, other, target, carries):
    """Gates of a step +: the carries are worked out, not the sum, as the target may hold any word."""
    up = []
    for position in range(len(target) - 1):
        carry = carried_into(position, carries)
        up.extend(most_of(one[position], other[position], carry, carries[position]))
    # what is carried into a position is a bit of the sum
    return within(up, turned_by(one, target) + turned_by(other, target) + turned_by(["off", *carries], target))


def borrow_gates(one, other, borrow, target):
    """Gates that turn the target if one less other less borrow is below 0."""
    # as many of not one, other and borrow as make two at least
    return flip_by(other, target) + flip_by(borrow, target) + most_of(one, other, borrow, target)


def borrows(one, other, wires):
    """Gates that work out on these wires what is borrowed from each position."""
    gates = []
    for position, wire in enumerate(wires):
        gates.extend(borrow_gates(one[position], other[position], carried_into(position, wires), wire))
    return gates


def difference_gates(one, other, target, helpers):
    """Gates of a step -."""
    middle = turned_by(one, target) + turned_by(other, target) + turned_by(["off", *helpers], target)
    return within(borrows(one, other, helpers), middle)


def less_gates(one, other, target, helpers):
    """Gates of a step <: it holds if something is borrowed from the highest position."""
    return within(borrows(one, other, helpers), flip_by(helpers[-1], target[0]))


def equal_gates(one, other, target, helpers):
    """Gates of a step ==: each helper tells whether all positions up to its own are alike."""
    gates = []
    alike = "on"
    for first, second, helper in zip(one, other, helpers):
        gates.extend(flip_by(alike, helper) + both_by(alike, first, helper) + both_by(alike, second, helper))
        alike = helper
    return within(gates, flip_by(alike, target[0]))


def pick_gates(operands, target, helpers):
    """Gates of a step pick: each helper tells whether a 1 stands up to its position in the first word."""
    first, one, other = operands
    gates = []
    found = "off"
    for bit, helper in zip(first, helpers):
        gates.extend(flip_by(found, helper) + flip_by(bit, helper) + both_by(found, bit, helper))
        found = helper
    middle = turned_by(other, target)
    for yes, no, wire in zip(one, other, target):
        middle.extend(both_by(found, yes, wire) + both_by(found, no, wire))
    return within(gates, middle)


def table_gates(numbers, bits, target, helpers):
    """Gates of a table: for each entry the last helper tells whether these bits are its number."""
    gates = []
    for entry in range(1 << len(bits)):
        up = []
        found = "on"
        for position, bit in enumerate(bits):
            helper = helpers[position]
            if not entry >> position & 1:
                up.extend(flip_by(found, helper))
            up.extend(both_by(found, bit, helper))
            found = helper
        turned = [wire for position, wire in enumerate(target) if numbers[entry] >> position & 1]
        gates.extend(within(up, [gate for wire in turned for gate in flip_by(found, wire)]))
    return gates


def times_gates(one, other, target, helpers):
    """Gates of a step *: the products of single bits are added up on the first helpers."""
    width = len(target)
    sums, carries, product = helpers[:width], helpers[width:-1], helpers[-1]
    up = []
    for shift in range(width):
        up.extend(added_gates(one[shift], other[:width - shift], sums[shift:], carries, product))
    return within(up, turned_by(sums, target))


def added_gates(bit, others, sums, carries, product):
    """Gates that add the word of the others to the sums if a bit is 1; product is a wire to work with."""
    gates = []
    last = len(sums) - 1
    for position in range(last):
        gates.extend(carry_gates(bit, others[position], sums[position], position, carries, product))
    for position in range(last, -1, -1):
        if position < last:
            # these gates are their own way back
            gates.extend(carry_gates(bit, others[position], sums[position], position, carries, product))
        gates.extend(both_by(bit, others[position], sums[position]))
        gates.extend(flip_by(carried_into(position, carries), sums[position]))
    return gates


def carry_gates(bit, other, total, position, carries, product):
    """Gates that work out what is carried from a position if the product of two bits is added to its total."""
    carried = most_of(product, total, carried_into(position, carries), carries[position])
    return within(both_by(bit, other, product), carried)

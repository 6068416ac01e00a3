"""Gates over operand bits: turned by one bit, by two, and words added up."""


def flip_by(bit, target):
    """The gates that turn the target if the operand bit is 1."""
    if bit == "off":
        return ()
    return (("not", target),) if bit == "on" else (("flip", bit, target),)


def both_by(one, other, target):
    """The gates that turn the target if both operand bits are 1."""
    if one == "off" or other == "off":
        return ()
    if one == "on" or one == other:
        return flip_by(other, target)
    return flip_by(one, target) if other == "on" else (("both", one, other, target),)


def most_of(one, other, third, target):
    """The gates that turn the target if at least two of three operand bits are 1."""
    return both_by(one, other, target) + both_by(one, third, target) + both_by(other, third, target)


def carried_into(position, carries):
    """The operand bit that is carried into a position: nothing is carried into the lowest."""
    return carries[position - 1] if position > 0 else "off"


def add_gates(ones, sums, carries):
    """Gates that add the word of the operand bits to the word on sums; the carries are 0 before and behind."""
    gates = []
    last = len(sums) - 1
    for position in range(last):
        carry = carried_into(position, carries)
        gates.extend(most_of(ones[position], sums[position], carry, carries[position]))
    for position in range(last, -1, -1):
        carry = carried_into(position, carries)
        if position < last:
            # the sum is still the old one here, so the same gates empty the carry
            gates.extend(most_of(ones[position], sums[position], carry, carries[position]))
        gates.extend(flip_by(ones[position], sums[position]))
        gates.extend(flip_by(carry, sums[position]))
    return tuple(gates)

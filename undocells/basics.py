"""What whole numbers and sequences are, and places told as binary ones of a number."""


def is_whole(thing):
    """Whether it is a whole number; True and False are none."""
    return isinstance(thing, int) and not isinstance(thing, bool)


def is_within(thing, least, most):
    """Whether it is a whole number from least to most."""
    return is_whole(thing) and least <= thing <= most


def is_sequence(thing):
    """Whether it is a list or a tuple."""
    return isinstance(thing, (list, tuple))


def mask_of(places):
    """The number whose binary ones stand at these places."""
    mask = 0
    for place in places:
        mask |= 1 << place
    return mask


def places_in(mask):
    """The positions of the binary ones of a number, ascending."""
    return tuple([place for place in range(mask.bit_length()) if mask >> place & 1])

"""Binary positions dealt out to needs, with the least sum."""

from heapq import heappop, heappush

from undocells.basics import is_sequence, is_within
from undocells.errors import BadNeeds

MOST_NEEDS = 200
MOST_NEED_BITS = 200


def check_needs(needs):
    """Raise the error of needs that cannot be dealt to."""
    if not is_sequence(needs) or len(needs) > MOST_NEEDS:
        raise BadNeeds(-1)
    for index, need in enumerate(needs):
        if not is_within(need, 1, (1 << MOST_NEED_BITS) - 1):
            raise BadNeeds(index)


def give_position(left, position):
    """Give a position to the greatest need that is left, and tell whose need it is."""
    lacking, index = heappop(left)
    rest = -lacking - (1 << position)
    if rest > 0:
        heappush(left, (-rest, index))
    return index


def is_enough(left, many):
    """Whether all positions below this one together are enough for the needs that are left."""
    if -sum([lacking for lacking, _ in left]) >= 1 << many:
        return False
    trial = list(left)
    for position in reversed(range(many)):
        if not trial:
            return True
        give_position(trial, position)
    return not trial


def deal_out(needs):
    """The least sum of shares, and such shares in the order of the needs."""
    check_needs(needs)
    # needs are kept below nought: the least entry of a heap is taken first
    left = []
    for index, need in enumerate(needs):
        heappush(left, (-need, index))
    shares = [0] * len(needs)
    # this many positions are enough: each need has one of its own that is more than the need
    many = len(needs) + max([need.bit_length() for need in needs], default=0)
    for position in reversed(range(many)):
        if not is_enough(left, position):
            shares[give_position(left, position)] += 1 << position
    return sum(shares), tuple(shares)

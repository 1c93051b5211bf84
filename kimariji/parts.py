"""Parts: exact pairs (top, bottom) in lowest terms, the bottom above 0."""

from kimariji.errors import NoPart


def part(top, bottom):
    """The part that the top and the bottom make."""
    if bottom == 0:
        raise NoPart("a part has no bottom of 0")
    divisor = common_divisor(abs(top), abs(bottom))
    if bottom < 0:
        divisor = -divisor
    return (top // divisor, bottom // divisor)


def common_divisor(one, other):
    """The greatest number that divides both; neither is below 0, and not both are 0."""
    while other > 0:
        one, other = other, one % other
    return one


def plus(one, other):
    """The sum of two pairs."""
    # A bottom of 0 in either pair makes the product 0 too, so `part` refuses it.
    return part(one[0] * other[1] + other[0] * one[1], one[1] * other[1])


def minus(one, other):
    """The first pair less the second."""
    return plus(one, (-other[0], other[1]))


def less(one, other):
    """Whether the first pair is less than the second."""
    return minus(one, other)[0] < 0

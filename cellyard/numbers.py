"""Whole numbers and fractions, as [0.3] tells them."""


def is_whole(thing):
    """Whether the thing is a whole number."""
    # Python counts True and False among the ints; they are no whole numbers here.
    return isinstance(thing, int) and not isinstance(thing, bool)


def is_within(thing, low, high):
    """Whether the thing is a whole number from low to high."""
    return is_whole(thing) and low <= thing <= high


def greatest_divisor(one, other):
    """The greatest whole number that divides both, which are not below 0."""
    while other > 0:
        one, other = other, one % other
    return one


def fraction(top, below):
    """The fraction top through below in lowest terms; top is not below 0, below is above 0."""
    divisor = greatest_divisor(top, below)
    return (top // divisor, below // divisor)


def is_fraction(thing):
    """Whether the thing is a fraction in lowest terms."""
    if not isinstance(thing, tuple) or len(thing) != 2:
        return False
    top, below = thing
    if not is_whole(top) or not is_whole(below) or top < 0 or below < 1:
        return False
    return greatest_divisor(top, below) == 1


def plus(one, other):
    """The sum of two fractions."""
    return fraction(one[0] * other[1] + other[0] * one[1], one[1] * other[1])

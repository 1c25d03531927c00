"""An amount of turns, parted among wants by their weights: [1.1]."""

from cellyard.errors import NoNumber, NoWants
from cellyard.numbers import fraction, is_within

MAX_AMOUNT = 9999
MAX_WANTS = 12
MAX_WEIGHT = 100
MAX_MOST = 999


def level(amount, wants):
    """What the unsated get for each unit of weight, a fraction; None where all get their mosts."""
    check(amount, wants)
    return level_of(amount, wants)


def shares(amount, wants):
    """What each gets, a list of fractions in the order of the wants."""
    check(amount, wants)
    return parted((amount, 1), wants)


def unshared(amount, wants):
    """What is left of the amount, a whole number."""
    check(amount, wants)
    return max(0, amount - sum_of_mosts(wants))


def check(amount, wants):
    """Refuse what is no amount, then what are no wants."""
    if not is_within(amount, 0, MAX_AMOUNT):
        raise NoNumber(f"an amount is a whole number from 0 to {MAX_AMOUNT}")
    if not are_wants(wants):
        raise NoWants(f"wants are a list of at most {MAX_WANTS} tuples (weight, most)")


def are_wants(thing):
    """Whether the thing is a list of wants."""
    if not isinstance(thing, list) or len(thing) > MAX_WANTS:
        return False
    return all([is_want(part) for part in thing])


def is_want(thing):
    """Whether the thing is a tuple (weight, most) within its bounds."""
    if not isinstance(thing, tuple) or len(thing) != 2:
        return False
    weight, most = thing
    return is_within(weight, 1, MAX_WEIGHT) and is_within(most, 0, MAX_MOST)


def sum_of_mosts(wants):
    """All mosts together."""
    return sum([most for weight, most in wants])


def parted(amount, wants):
    """What each gets, in order, of an amount that is a fraction; wants may be more and higher than those of shares."""
    top, below = amount
    # In parts of one turn, so many to a turn as the fraction has below, the amount is a whole number.
    in_parts = [(weight, most * below) for weight, most in wants]
    reached = level_of(top, in_parts)
    return [through(share_at(reached, weight, most), below) for weight, most in in_parts]


def through(share, divisor):
    """The fraction, divided by a whole number."""
    top, below = share
    return fraction(top, below * divisor)


def level_of(amount, wants):
    """The level of a whole amount; None where it is no less than all mosts together."""
    return None if amount >= sum_of_mosts(wants) else level_of_short(amount, wants)


def level_of_short(amount, wants):
    """The level of an amount that is less than all mosts together."""
    left = amount
    hungry = wants
    while True:
        weights = sum([weight for weight, most in hungry])
        # Who is sated at this level stays so: leaving them out can only raise it.
        # Not all of the hungry can be, as less is left than their mosts together.
        sated = [want for want in hungry if is_sated(want, left, weights)]
        if len(sated) == 0:
            return fraction(left, weights)
        hungry = [want for want in hungry if not is_sated(want, left, weights)]
        left -= sum_of_mosts(sated)


def is_sated(want, top, below):
    """Whether the level top through below gives the want its most."""
    weight, most = want
    return top * weight >= most * below


def share_at(reached, weight, most):
    """The fraction that a want gets at the level that is reached, None being above all."""
    if reached is None:
        return (most, 1)
    top, below = reached
    if is_sated((weight, most), top, below):
        return (most, 1)
    return fraction(top * weight, below)

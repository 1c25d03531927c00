"""What several test files need."""


def nested(depth, innermost=1):
    """A thing of lists and tuples by turns, so many deep."""
    thing = innermost
    for at in range(depth):
        thing = [thing] if at % 2 else (thing,)
    return thing


# Things of every kind that [0.3] names, none of which is a whole number.
NO_WHOLES = [
    True, False, None, "", "5", "abc", [], [5], (), (5,), [True], (1, 2), [(1, 2)], ((1, 2),),
    nested(6), nested(7), nested(3000), 1.0, 5.5, float("nan"), float("inf"), {}, {5: 5}, b"5",
]

# Whole numbers that are far beyond every bound of the program.
FAR_WHOLES = [-(10 ** 5000), -(2 ** 64), 2 ** 64, 10 ** 5000]

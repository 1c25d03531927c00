"""What several test files need."""

from cellyard.errors import CellError


def nested(depth, innermost=1):
    """A thing of lists and tuples by turns, so many deep."""
    thing = innermost
    for at in range(depth):
        thing = [thing] if at % 2 else (thing,)
    return thing


# Things of every kind that [0.3] names, none of which is a whole number.
NO_WHOLES = [
    True, False, None, "", "5", "abc", [], [5], (), (5,), [True], (1, 2), [(1, 2)], ((1, 2),),
    nested(6), nested(7), nested(3000), 1.0, 5.5, float("nan"), float("inf"), {}, {5: 5}, b"5",
]

# Whole numbers that are far beyond every bound of the program.
FAR_WHOLES = [-(10 ** 5000), -(2 ** 64), 2 ** 64, 10 ** 5000]

# Things of every kind that are no texts.
NO_TEXTS = [
    None, True, False, 0, 1, -1, 97, [], ["a"], ["a", "b"], (), ("a",), ("a", "b"), [None], (("a",),),
    nested(6, "a"), nested(7, "a"), nested(3000, "a"), 1.5, {}, {"a": "a"}, b"a",
] + FAR_WHOLES

# Signs that are neither letters a to z nor figures, some of which Python counts among such.
OTHER_SIGNS = [
    "A", "Z", "`", "{", "/", ":", " ", "\n", "\t", "\0", "-", "_", ".", "'", "\u00e4", "\u00df", "\u00aa",
    "\u0131", "\u0430", "\uff41", "\u00b2", "\u0663", "\uff15", "\u2460", "\ud800", "\U0001d41a",
]

# Things of every kind that are no names.
NO_NAMES = NO_TEXTS + [
    "", "abcdefg", "aaaaaaaaaaaa", "a" * 5000, "0", "9", "a1", "1a", "abc de", " ab", "ab ", "ab\n", "aB",
] + OTHER_SIGNS + ["a" + sign for sign in OTHER_SIGNS] + [sign + "abc" for sign in OTHER_SIGNS]

# Things of every kind that no file may bear.
NO_WORDS = NO_TEXTS[1:] + [
    "", "a" * 21, "1" * 21, "a" * 5000, "a b", "ab ", " ab", "ab\n", "aB",
] + OTHER_SIGNS + ["a1" + sign for sign in OTHER_SIGNS] + [sign + "1a" for sign in OTHER_SIGNS]

# Things of every kind that are no paths.
NO_PATHS = [
    None, True, False, 0, 1, "", "a", "abcd", [], ["a"], ["a", "b"], [("a",)], (("a",),), (("a", "b"),),
    (["a"],), ("a", ("b",)), ("a",) * 5, ("a", "b", "c", "d", "e"), ("a",) * 500, (None,), (True,), (1,), ((),),
    nested(6, "a"), nested(7, "a"), nested(3000, "a"), {}, {"a": "a"}, b"a",
] + [(name,) for name in NO_NAMES] + [("a", "b", name) for name in NO_NAMES] + [(name, "a") for name in NO_NAMES]


def refuses(test, error, do, *things, **named):
    """The deed is refused by this very class; told is the error."""
    with test.assertRaises(CellError) as taken:
        do(*things, **named)
    test.assertIs(taken.exception.__class__, error)
    return taken.exception

"""Texts of yards, written and read: [10.1]."""

from cellyard.errors import NoDeeds, NoText
from cellyard.histories import replayed

FIGURES = "0123456789"
SIGN_BY_THING = {None: "-", True: "+", False: "!"}
THING_BY_SIGN = {"-": None, "+": True, "!": False}
TEXT_SIGN = "'"
# Python writes and reads no numbers of some thousands of figures at once, so that is done by pieces.
PIECE = 18
PIECE_END = 1000000000000000000


def yard_text(yard):
    """The text of the yard: a line for each of its deeds."""
    return "".join([line_of(deed) for deed in yard.done])


def line_of(deed):
    """The line of a deed."""
    return " ".join([deed[0]] + [written(part) for part in deed[1:]]) + "\n"


def written(part):
    """A part of a deed as it is written."""
    if isinstance(part, tuple):
        return "(" + ",".join([written(inner) for inner in part]) + ")"
    if isinstance(part, str):
        return TEXT_SIGN + part
    if part is None or isinstance(part, bool):
        return SIGN_BY_THING[part]
    return figures_of(part)


def figures_of(number):
    """The whole number, which is not below 0, by figures."""
    pieces = []
    while number >= PIECE_END:
        number, piece = divmod(number, PIECE_END)
        pieces.append(str(piece).zfill(PIECE))
    pieces.append(str(number))
    return "".join(pieces[::-1])


def read_yard(text):
    """The yard whose text this is."""
    if not isinstance(text, str):
        raise NoText("the text of a yard is a text")
    yard = yard_of([deed_of(line) for line in text.split("\n")[:-1]])
    # Each yard is written in one way alone: what reads as one, but is written otherwise, is not its text.
    if yard_text(yard) != text:
        raise NoText("no yard is written so")
    return yard


def yard_of(deeds):
    """The yard of these deeds."""
    try:
        return replayed(deeds)
    except NoDeeds as error:
        raise NoText("these are no deeds of a yard") from error


def deed_of(line):
    """The deed of a line; what is read need not be written just so."""
    word, *parts = line.split(" ")
    return tuple([word] + [part_of(part) for part in parts])


def part_of(text):
    """The part of a deed that the text reads as."""
    # The innermost bracket that is not closed yet is the last; the first one bears the part itself.
    levels = [[]]
    for token in tokens_of(text):
        if token == "(":
            levels.append([])
        elif token == ")":
            inner = levels.pop()
            if len(levels) == 0:
                raise NoText("a bracket is closed that was not opened")
            levels[-1].append(tuple(inner))
        else:
            levels[-1].append(thing_of(token))
    if len(levels) != 1 or len(levels[0]) != 1:
        raise NoText("this is not one part")
    return levels[0][0]


def tokens_of(text):
    """A list of the brackets in the text, and of what stands between them and commas."""
    spaced = text.replace("(", ",(,").replace(")", ",),")
    return [token for token in spaced.split(",") if token != ""]


def thing_of(token):
    """What a token, which is no bracket, reads as."""
    if token in THING_BY_SIGN:
        return THING_BY_SIGN[token]
    if token[0] == TEXT_SIGN:
        return token[1:]
    if not all([sign in FIGURES for sign in token]):
        raise NoText("this is neither a number nor a text")
    return number_of_figures(token)


def number_of_figures(figures):
    """The whole number of these figures."""
    begun = len(figures) % PIECE
    number = int(figures[:begun]) if begun > 0 else 0
    for at in range(begun, len(figures), PIECE):
        number = number * PIECE_END + int(figures[at:at + PIECE])
    return number

"""The deeds of a yard, and yards in which deeds are done again: [9.1]."""

from cellyard.errors import CellError, NoDeeds
from cellyard.world import Yard


def deeds_of(yard):
    """A list of all deeds that were done and not refused, in order."""
    return list(yard.done)


def replayed(deeds):
    """A yard in which these deeds were done one behind the other."""
    if not isinstance(deeds, list):
        raise NoDeeds("deeds are a list of tuples")
    yard = Yard()
    for deed in deeds:
        play(yard, deed)
    return yard


def play(yard, deed):
    """Do the deed, which may be any thing, and refuse what is none, or is refused."""
    try:
        yard.act(deed)
    except CellError as error:
        raise NoDeeds("this is no deed, or it is refused") from error


def twin(yard):
    """Another yard in which all deeds of this one were done."""
    return replayed(deeds_of(yard))


def undone(yard):
    """Another yard, in which all deeds of this one but the last were done."""
    if len(yard.done) == 0:
        raise NoDeeds("no deed was done")
    return replayed(yard.done[:-1])

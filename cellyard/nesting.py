"""Groups and rooms that lie one in another, each naming by `outer` the one in which it lies."""


def outwards(thing):
    """A list of the group or room and all in which it lies, the innermost first."""
    found = []
    while thing is not None:
        found.append(thing)
        thing = thing.outer
    return found

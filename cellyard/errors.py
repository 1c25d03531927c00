"""What the program refuses, a class for each refusal."""


class CellError(ValueError):
    """Any refusal."""


class NoNumber(CellError):
    """It is no whole number, or one out of bounds."""


class NoName(CellError):
    """It is no name."""


class NoWants(CellError):
    """They are no wants."""


class NoLayers(CellError):
    """They are no layers."""


class NoPath(CellError):
    """It is no path."""


class NoWords(CellError):
    """It is no text that a file or a box may bear."""


class NoKinds(CellError):
    """They are no kinds of rooms."""


class NoProcess(CellError):
    """It is no own number of a process that goes."""


class NoGroup(CellError):
    """It is no group's name."""


class NoStore(CellError):
    """It is no store's name."""


class NoCell(CellError):
    """It is no cell's name."""


class Taken(CellError):
    """The name, or the place, is taken."""


class Itself(CellError):
    """It is so already."""


class Frozen(CellError):
    """A group is frozen: `group` is the outermost one that is frozen itself."""

    def __init__(self, group):
        CellError.__init__(self, f"the group {group} is frozen")
        self.group = group


class Capped(CellError):
    """A limit would be passed: `group` is the innermost one whose limit that is."""

    def __init__(self, group):
        CellError.__init__(self, f"a limit of the group {group} would be passed")
        self.group = group


class Over(CellError):
    """More is there than a new limit allows: `many` is how many."""

    def __init__(self, many):
        CellError.__init__(self, "the limit is below what is there")
        self.many = many


class TooFew(CellError):
    """There are too few units."""


class Guarded(CellError):
    """That process is guarded."""


class NoSuch(CellError):
    """Nobody that goes has this number there."""


class NoChild(CellError):
    """There are no young ones."""


class NotYet(CellError):
    """None of the young ones ended."""


class NoMount(CellError):
    """Nothing is mounted there."""


class Fixed(CellError):
    """The mount is held fast."""


class NoFile(CellError):
    """There is no such file."""


class Held(CellError):
    """It is still in use."""


class NotClosed(CellError):
    """The cell is bound up with something outside."""


class NoPicture(CellError):
    """It is no picture of a cell."""


class NoDeeds(CellError):
    """They are no deeds of a yard."""


class NoText(CellError):
    """It is no text of a yard."""

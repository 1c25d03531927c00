"""What is to be seen of a yard: [8.1] to [8.3]."""

from cellyard.layers import check_name
from cellyard.numbers import plus
from cellyard.turns import wants_of_groups


def processes(yard):
    """The own numbers of all processes that go, rising."""
    return [process.own for process in yard.ground.processes.all_going()]


def ended(yard):
    """A rising list of tuples (own, elder, outcome) of all that ended and are not waited for yet."""
    return [(process.own, process.elder, process.outcome) for process in yard.ground.processes.all_ended()]


def elder_of(yard, own):
    """The own number of the process's elder, None of the first."""
    return yard.ground.processes.going(own).elder


def group_of(yard, own):
    """The group in which the process is."""
    return yard.ground.processes.going(own).group


def number_of(yard, own):
    """The process's number in its room."""
    yard.ground.processes.going(own)
    return yard.ground.rooms.number_of(own)


def number_seen(yard, own, other):
    """The number of the other one in the room of the first one, or None."""
    yard.ground.processes.going(own)
    yard.ground.processes.going(other)
    return yard.ground.rooms.number_seen(own, other)


def seen_by(yard, own):
    """A rising list of tuples (number, elder's number) of all that go and have a number in the process's room."""
    yard.ground.processes.going(own)
    found = []
    for number, other in yard.ground.rooms.seen_from(own):
        if yard.ground.processes.goes(other):
            elder = yard.ground.rooms.number_seen(own, elder_of(yard, other))
            found.append((number, 0 if elder is None else elder))
    return found


def holdings(yard, own):
    """A tuple of the process's weight, its units, what it wants and what it got."""
    process = yard.ground.processes.going(own)
    return (process.heft, process.units, process.want, process.got)


def is_frozen(yard, own):
    """Whether the process is frozen."""
    return yard.ground.groups.outermost_frozen(group_of(yard, own)) is not None


def share_rooms(yard, own, other):
    """A list of the kinds of which both processes are in the same room."""
    yard.ground.processes.going(own)
    yard.ground.processes.going(other)
    return yard.ground.rooms.shared_kinds(own, other)


def rooms(yard):
    """A tuple of how many rooms of numbers, of mounts and of boxes there are."""
    return yard.ground.rooms.many_rooms()


def groups(yard):
    """A rising list of tuples (name, group in which it lies, weight, three limits, whether it is frozen itself)."""
    return yard.ground.groups.rows()


def charges(yard, name):
    """A tuple of how many units, and how many processes, the group and those within have."""
    return yard.ground.groups.charges(name)


def turns_of(yard, name):
    """How many turns all processes that are in the group or within got, a fraction."""
    total = (0, 1)
    for process in yard.ground.processes.all_in(yard.ground.groups.names_within(name)):
        total = plus(total, process.got)
    return total


def wants_of(yard, name):
    """How many turns the group wants at a tick, a fraction."""
    if yard.ground.groups.outermost_frozen(name) is not None:
        return (0, 1)
    return (wants_of_groups(yard.ground.groups, yard.ground.processes)[name], 1)


def stores(yard):
    """A rising list of the names of all stores."""
    return sorted(yard.ground.stores.texts_by_name)


def files(yard, name):
    """A rising list of tuples (path, text) of the store's files."""
    return yard.ground.stores.files_of(name)


def mounts(yard, own):
    """A rising list of tuples (path, store, whether it is held fast) of the process's room of mounts."""
    yard.ground.processes.going(own)
    return yard.ground.rooms.mounts_of(own)


def read(yard, own, path):
    """What the file of this path bears, or None."""
    yard.ground.processes.going(own)
    name, rest, held_fast = yard.ground.rooms.spot_of(own, path)
    return yard.ground.stores.text_at(name, rest)


def box(yard, own, name):
    """What the box of this name in the process's room of boxes bears, or None."""
    check_name(name)
    yard.ground.processes.going(own)
    return yard.ground.rooms.box_of(own, name)


def boxes(yard, own):
    """A rising list of tuples (name, text) of the process's room of boxes."""
    yard.ground.processes.going(own)
    return yard.ground.rooms.boxes_of(own)


def cells(yard):
    """A rising list of tuples (name, own number of its first, or None, where that does not go)."""
    return sorted([(name, yard.ground.first_of_cell(name)) for name in yard.ground.cells])

"""Pictures of what is inside a cell, and cells that are restored from them: [7.3], [7.4]."""

from cellyard.errors import NoPicture, NotClosed
from cellyard.forms import OUTSIDE, Likeness, is_picture
from cellyard.groups import OUTERMOST
from cellyard.layers import check_name
from cellyard.nesting import outwards
from cellyard.processes import FIRST_OWN
from cellyard.rooms import FIRST, BoxRoom, MountRoom, NumberRoom, Seat, store_names


def picture_of(ground, name):
    """All that is inside the cell, a tuple of eight."""
    ground.check_cell(name)
    if not is_closed(ground, name):
        raise NotClosed(f"the cell {name} is bound up with something outside")
    group = ground.groups.known(name)
    owns = insiders(ground, name)
    places = Places(ground.rooms, owns)
    return (
        group.heft,
        (group.unit_cap, group.head_cap, group.turn_cap),
        group.frozen,
        tuple(ground.stores.files_of(name)),
        tuple([places.number_row(room) for room in places.numbers]),
        tuple([mount_row(room) for room in places.mounts]),
        tuple([tuple(sorted(room.texts.items())) for room in places.boxes]),
        tuple([places.process_row(ground.processes.by_own[own]) for own in owns]),
    )


def insiders(ground, name):
    """A list of all that are in the room of the cell's first, or within, by rising numbers there."""
    return [own for number, own in ground.rooms.seen_from(ground.cells[name])]


def is_closed(ground, name):
    """Whether nothing inside the cell is bound up with anything outside."""
    first = ground.first_of_cell(name)
    if first is None or ground.processes.by_own[first].group != name or ground.groups.has_inner(name):
        return False
    # Elders, and whoever shares a room of mounts or boxes made inside, are in the first's room or within:
    # where all there are of the cell, and nobody else is, these are, too.
    if sorted(insiders(ground, name)) != [process.own for process in ground.processes.all_in([name])]:
        return False
    return is_store_inside(ground, name)


def is_store_inside(ground, name):
    """Whether the cell's store alone is mounted in rooms of its processes, and in no other room."""
    inside = [ground.rooms.seats[process.own].mounts for process in ground.processes.all_in([name])]
    for room in ground.rooms.rooms_of("mounts"):
        for store in store_names(room):
            if (store == name) != (room in inside):
                return False
    return True


def mount_row(room):
    """What is told of a room of mounts: a rising tuple of tuples (path, whether it is held fast)."""
    return tuple(sorted([(path, held_fast) for path, (store, held_fast) in room.stores.items()]))


class Places:
    """The rooms of a cell's processes, each with its place in the picture; `top` is the first's room of numbers."""

    def __init__(self, rooms, owns):
        seats = [rooms.seats[own] for own in owns]
        self.rooms = rooms
        self.top = seats[0].numbers
        self.numbers = placed([room for seat in seats for room in self.inwards(seat.numbers)])
        self.mounts = placed([seat.mounts for seat in seats])
        self.boxes = placed([seat.boxes for seat in seats])

    def inwards(self, room):
        """A list of the rooms of numbers from the first's to this one."""
        chain = outwards(room)
        return chain[:chain.index(self.top) + 1][::-1]

    def number_row(self, room):
        """What is told of a room of numbers: the place of that in which it lies, the next number, its first."""
        lies_in = None if room == self.top else self.numbers[room.outer]
        return (lies_in, room.coming, self.top.number_by_own[room.own_by_number[FIRST]])

    def process_row(self, process):
        """What is told of a process, a tuple of ten."""
        own = process.own
        seat = self.rooms.seats[own]
        return (
            self.top.number_by_own.get(process.elder, OUTSIDE),
            tuple([(self.numbers[room], room.number_by_own[own]) for room in self.inwards(seat.numbers)]),
            self.mounts.get(seat.mounts),
            self.boxes.get(seat.boxes),
            process.heft,
            process.units,
            process.want,
            process.got,
            process.has_ended,
            process.outcome,
        )


def placed(met):
    """The rooms by their places, in the order in which they are met; None, for who has ended, is no room."""
    places = {}
    for room in met:
        if room is not None:
            places.setdefault(room, len(places))
    return places


def restore_cell(ground, name, picture):
    """A cell of this name in which all is as the picture has it; told is the own number of its first."""
    check_name(name)
    if not is_picture(picture):
        raise NoPicture("no cell has such a picture")
    ground.check_free(name)
    heft, caps, frozen, files, numbers, mounts, boxes, rows = picture
    told = [Likeness(row) for row in rows]
    units = sum([each.units for each in told])
    ground.groups.check_space(OUTERMOST, heads=len(told), units=units)
    unit_cap, head_cap, turn_cap = caps
    ground.groups.make_group(
        name, OUTERMOST, heft=heft, unit_cap=unit_cap, head_cap=head_cap, turn_cap=turn_cap)
    ground.groups.admit(name, heads=len(told), units=units)
    if frozen:
        ground.groups.freeze(name)
    ground.stores.fill(name, files)
    ground.cells[name] = ground.processes.next_own
    bring_in(ground, name, told, (
        number_rooms(ground.rooms.first.numbers, numbers),
        [MountRoom({path: (name, held_fast) for path, held_fast in room}) for room in mounts],
        [BoxRoom(room) for room in boxes]))
    return ground.cells[name]


def number_rooms(outermost, told):
    """A list of the rooms of numbers of which this is told; the first one lies in the outermost room."""
    made = []
    for outer, coming, first in told:
        room = NumberRoom(outermost if outer is None else made[outer])
        room.coming = coming
        made.append(room)
    return made


def bring_in(ground, name, told, made):
    """The processes of which this is told come into the cell, and into the rooms that were made for them."""
    numbers, mounts, boxes = made
    own_by_number = {OUTSIDE: FIRST_OWN}
    for each in told:
        process = ground.processes.come(own_by_number[each.elder], name)
        own_by_number[each.number] = process.own
        take_after(process, each)
        seat = Seat(
            numbers[each.room],
            None if each.has_ended else mounts[each.mounts],
            None if each.has_ended else boxes[each.boxes])
        ground.rooms.sit_as_told(process.own, seat, [(numbers[place], number) for place, number in each.ways])


def take_after(process, likeness):
    """The process has and holds what its likeness does."""
    process.heft = likeness.heft
    process.units = likeness.units
    process.want = likeness.want
    process.got = likeness.got
    process.has_ended = likeness.has_ended
    process.outcome = likeness.outcome

"""Rooms of numbers, of mounts and of boxes, and who is in which: [4.1], [4.3], [4.6], [4.7], [6.2], [6.3]."""

from cellyard.errors import NoKinds, NoMount, NoNumber, NoWords, Taken
from cellyard.layers import are_words, check_name, check_path
from cellyard.nesting import outwards
from cellyard.numbers import is_whole

KINDS = ("numbers", "mounts", "boxes")
FIRST = 1


class NumberRoom:
    """A room of numbers that lies in the room `outer`, which is None of the outermost one.

    Whoever is in it, or in a room that lies in it, has a number here; `coming` is the next one.
    """

    def __init__(self, outer):
        self.outer = outer
        self.coming = FIRST
        self.number_by_own = {}
        self.own_by_number = {}

    def give_number(self, own):
        """The process has the next number here."""
        self.put_number(own, self.coming)
        self.coming += 1

    def put_number(self, own, number):
        """The process has this number here."""
        self.number_by_own[own] = number
        self.own_by_number[number] = own

    def take_number(self, own):
        """The process has no number here any more, and nobody gets the one that it had."""
        del self.own_by_number[self.number_by_own[own]]
        del self.number_by_own[own]


class MountRoom:
    """A room of mounts: `stores` has a tuple (store, whether it is held fast) for each mounted path."""

    def __init__(self, stores):
        self.stores = dict(stores)


class BoxRoom:
    """A room of boxes: `texts` has what each box bears by its name."""

    def __init__(self, texts):
        self.texts = dict(texts)


class Seat:
    """The three rooms in which a process is; those of mounts and of boxes are None where it has ended."""

    def __init__(self, numbers, mounts, boxes):
        self.numbers = numbers
        self.mounts = mounts
        self.boxes = boxes


class Rooms:
    """All rooms of a yard.

    A room is there as long as somebody's seat names it, so nothing needs to be taken away; the first one
    of each kind stays without that. Processes are told by their own numbers.
    """

    def __init__(self):
        self.first = Seat(NumberRoom(None), MountRoom({}), BoxRoom({}))
        self.seats = {}

    def settle_first(self, own):
        """The process is in the first room of each kind."""
        self.sit(own, Seat(self.first.numbers, self.first.mounts, self.first.boxes))

    def settle(self, own, elder, fresh):
        """The process is in the rooms of its elder, but in new ones of the kinds told by fresh."""
        seat = self.seats[elder]
        numbers = NumberRoom(seat.numbers) if "numbers" in fresh else seat.numbers
        mounts = MountRoom(seat.mounts.stores) if "mounts" in fresh else seat.mounts
        boxes = BoxRoom({}) if "boxes" in fresh else seat.boxes
        self.sit(own, Seat(numbers, mounts, boxes))

    def settle_in_cell(self, own, store):
        """The process is in rooms of its own, with the store mounted at () and nothing else."""
        self.sit(own, Seat(NumberRoom(self.first.numbers), MountRoom({(): (store, False)}), BoxRoom({})))

    def sit_as_told(self, own, seat, ways):
        """The process has this seat, the next number in the outermost room, and those of the tuples (room, number)."""
        self.seats[own] = seat
        self.first.numbers.give_number(own)
        for room, number in ways:
            room.put_number(own, number)

    def sit(self, own, seat):
        """The process has this seat, and the next number in its room and in each in which that lies."""
        self.seats[own] = seat
        for room in outwards(seat.numbers):
            room.give_number(own)

    def end(self, own):
        """The process ended: it is no longer in rooms of mounts and boxes, but keeps its numbers."""
        seat = self.seats[own]
        seat.mounts = None
        seat.boxes = None

    def leave(self, own):
        """The process is no more."""
        for room in outwards(self.seats[own].numbers):
            room.take_number(own)
        del self.seats[own]

    def number_of(self, own):
        """Its number in its room."""
        return self.seats[own].numbers.number_by_own[own]

    def numbers_of(self, own):
        """A list of its numbers in its room and in each in which that lies, the innermost first."""
        return [room.number_by_own[own] for room in outwards(self.seats[own].numbers)]

    def number_seen(self, own, other):
        """The number of the other one in the room of the first one, or None."""
        return self.seats[own].numbers.number_by_own.get(other)

    def own_of(self, own, number):
        """Who has this number, which may be any thing, in the room of this process, or None."""
        # True would be found as 1, and lists can't be asked for.
        return self.seats[own].numbers.own_by_number.get(number) if is_whole(number) else None

    def seen_from(self, own):
        """A rising list of tuples (number, process) of all that have a number in its room."""
        return sorted(self.seats[own].numbers.own_by_number.items())

    def next_elder(self, own):
        """Who gets its young ones: the first of its room, or, if that is itself, of the next room out, or None."""
        room = self.seats[own].numbers
        if room.own_by_number.get(FIRST) == own:
            room = room.outer
        return None if room is None else room.own_by_number.get(FIRST)

    def bound_to(self, own):
        """A rising list of all others in its room, and in rooms that lie in it, if it is the first of its room."""
        room = self.seats[own].numbers
        if room.own_by_number.get(FIRST) != own:
            return []
        return sorted([other for other in room.number_by_own if other != own])

    def many_rooms(self):
        """A tuple of how many rooms of numbers, of mounts and of boxes there are."""
        return tuple([len(self.rooms_of(kind)) for kind in KINDS])

    def rooms_of(self, kind):
        """A list of the rooms of this kind that are there, each once."""
        found = {}
        for seat in [self.first] + list(self.seats.values()):
            room = room_of_kind(seat, kind)
            if room is not None:
                found[room] = True
        return list(found)

    def shared_kinds(self, own, other):
        """A list of the kinds of which both processes, which go, are in the same room."""
        one, two = self.seats[own], self.seats[other]
        return [kind for kind in KINDS if room_of_kind(one, kind) == room_of_kind(two, kind)]

    def mount(self, own, path, name, *, held_fast=False):
        """The store is mounted at this path in its room of mounts."""
        check_path(path)
        if not isinstance(held_fast, bool):
            raise NoNumber("whether a mount is held fast is a truth")
        stores = self.seats[own].mounts.stores
        if path in stores:
            raise Taken("something is mounted there")
        stores[path] = (name, held_fast)

    def unmount(self, own, path):
        """Nothing is mounted at this path in its room of mounts any more."""
        check_path(path)
        stores = self.seats[own].mounts.stores
        if path not in stores:
            raise NoMount("nothing is mounted there")
        del stores[path]

    def spot_of(self, own, path):
        """Where the file of this path lies: a tuple (store, path there, whether the mount is held fast)."""
        check_path(path)
        stores = self.seats[own].mounts.stores
        for many in reversed(range(len(path))):
            if path[:many] in stores:
                name, held_fast = stores[path[:many]]
                return (name, path[many:], held_fast)
        raise NoMount("the file lies at no mounted path")

    def mounts_of(self, own):
        """A rising list of tuples (path, store, whether it is held fast) of its room of mounts."""
        stores = self.seats[own].mounts.stores
        return sorted([(path, name, held_fast) for path, (name, held_fast) in stores.items()])

    def is_mounted(self, name):
        """Whether the store is mounted in some room."""
        return any([name in store_names(room) for room in self.rooms_of("mounts")])

    def post(self, own, name, text):
        """The box of this name in its room of boxes bears this text, or, by None, is no more."""
        check_name(name)
        if text is not None and not are_words(text):
            raise NoWords("a box bears a text as a file does, or is taken away by None")
        texts = self.seats[own].boxes.texts
        if text is not None:
            texts[name] = text
        elif name in texts:
            del texts[name]

    def box_of(self, own, name):
        """What the box of this name in its room of boxes bears, or None."""
        check_name(name)
        return self.seats[own].boxes.texts.get(name)

    def boxes_of(self, own):
        """A rising list of tuples (name, text) of its room of boxes."""
        return sorted(self.seats[own].boxes.texts.items())


def room_of_kind(seat, kind):
    """The room of this kind that the seat names."""
    if kind == "numbers":
        return seat.numbers
    return seat.mounts if kind == "mounts" else seat.boxes


def store_names(room):
    """A list of the stores that are mounted in the room."""
    return [name for name, held_fast in room.stores.values()]


def check_kinds(thing):
    """Refuse what is no tuple of unlike kinds of rooms."""
    if not are_kinds(thing):
        raise NoKinds(f"kinds are a tuple of unlike texts of {KINDS}")


def are_kinds(thing):
    """Whether the thing is a tuple of unlike kinds of rooms."""
    if not isinstance(thing, tuple) or not all([isinstance(kind, str) and kind in KINDS for kind in thing]):
        return False
    return len(set(thing)) == len(thing)

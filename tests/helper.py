"""What several test files need."""

import unittest

from cellyard import watching
from cellyard.deeds import do_deed
from cellyard.errors import CellError
from cellyard.histories import deeds_of
from cellyard.world import Yard
from cellyard.yards import Ground
from model import FIELDS, Refused


def nested(depth, innermost=1):
    """A thing of lists and tuples by turns, so many deep."""
    thing = innermost
    for at in range(depth):
        thing = [thing] if at % 2 else (thing,)
    return thing


# Things of every kind that [0.3] names, none of which is a whole number.
NO_WHOLES = [
    True, False, None, "", "5", "abc", [], [5], (), (5,), [True], (1, 2), [(1, 2)], ((1, 2),),
    nested(6), nested(7), nested(3000), 1.0, 5.5, float("nan"), float("inf"), {}, {5: 5}, b"5",
]

# Whole numbers that are far beyond every bound of the program, and have more figures than Python writes.
FAR_WHOLES = [-(10 ** 5000), -(2 ** 64), 2 ** 64, 10 ** 5000]

# Things of every kind that are no texts.
NO_TEXTS = [
    None, True, False, 0, 1, -1, 97, [], ["a"], ["a", "b"], (), ("a",), ("a", "b"), [None], (("a",),),
    nested(6, "a"), nested(7, "a"), nested(3000, "a"), 1.5, {}, {"a": "a"}, b"a",
] + FAR_WHOLES

# Signs that are neither letters a to z nor figures, some of which Python counts among such.
OTHER_SIGNS = [
    "A", "Z", "`", "{", "/", ":", " ", "\n", "\t", "\0", "-", "_", ".", "'", "\u00e4", "\u00df", "\u00aa",
    "\u0131", "\u0430", "\uff41", "\u00b2", "\u0663", "\uff15", "\u2460", "\ud800", "\U0001d41a",
]

# Things of every kind that are no names.
NO_NAMES = NO_TEXTS + [
    "", "abcdefg", "aaaaaaaaaaaa", "a" * 5000, "0", "9", "a1", "1a", "abc de", " ab", "ab ", "ab\n", "aB",
] + OTHER_SIGNS + ["a" + sign for sign in OTHER_SIGNS] + [sign + "abc" for sign in OTHER_SIGNS]

# Things of every kind that no file may bear.
NO_WORDS = NO_TEXTS[1:] + [
    "", "a" * 21, "1" * 21, "a" * 5000, "a b", "ab ", " ab", "ab\n", "aB",
] + OTHER_SIGNS + ["a1" + sign for sign in OTHER_SIGNS] + [sign + "1a" for sign in OTHER_SIGNS]

# Things of every kind that are no paths.
NO_PATHS = [
    None, True, False, 0, 1, "", "a", "abcd", [], ["a"], ["a", "b"], [("a",)], (("a",),), (("a", "b"),),
    (["a"],), ("a", ("b",)), ("a",) * 5, ("a", "b", "c", "d", "e"), ("a",) * 500, (None,), (True,), (1,), ((),),
    nested(6, "a"), nested(7, "a"), nested(3000, "a"), {}, {"a": "a"}, b"a",
] + [(name,) for name in NO_NAMES] + [("a", "b", name) for name in NO_NAMES] + [(name, "a") for name in NO_NAMES]


def refuses(test, error, do, *things, **named):
    """The deed is refused by this very class; told is the error."""
    with test.assertRaises(CellError) as taken:
        do(*things, **named)
    test.assertIs(taken.exception.__class__, error)
    return taken.exception


def outcome_of(do, *things):
    """What is told, or by which class it is refused, and with what in its field; of the program or of the model."""
    try:
        return ("told", do(*things))
    except CellError as error:
        name = error.__class__.__name__
        return ("refused", name, getattr(error, FIELDS[name]) if name in FIELDS else None)
    except Refused as error:
        return ("refused", error.name, error.field)


def labelled(rooms):
    """Labels of rooms in the order in which they are met."""
    labels = {}
    for room in rooms:
        labels.setdefault(room, len(labels))
    return labels


def chain(room):
    """The rooms from the outermost one to this one."""
    return [] if room is None else chain(room.outer) + [room]


def seen(ground):
    """All that a ground holds, in a form that is equal just where the grounds are alike."""
    seats = [ground.rooms.first] + [ground.rooms.seats[own] for own in ground.processes.by_own]
    numbers = labelled(room for seat in seats for room in chain(seat.numbers))
    mounts = labelled(seat.mounts for seat in seats if seat.mounts is not None)
    boxes = labelled(seat.boxes for seat in seats if seat.boxes is not None)
    people = {}
    for own, process in ground.processes.by_own.items():
        seat = ground.rooms.seats[own]
        ways = [(numbers[room], room.number_by_own[own]) for room in chain(seat.numbers)]
        people[own] = (
            process.elder, process.group, ways, mounts.get(seat.mounts), boxes.get(seat.boxes), process.heft,
            process.units, process.want, process.got, process.has_ended, process.outcome)
    return {
        "groups": ground.groups.rows(),
        "charges": {name: ground.groups.charges(name) for name in ground.groups.by_name},
        "people": people,
        "numbers": [(numbers.get(room.outer), room.coming) for room in numbers],
        "mounts": [dict(room.stores) for room in mounts],
        "boxes": [dict(room.texts) for room in boxes],
        "rooms": ground.rooms.many_rooms(),
        "stores": {name: dict(texts) for name, texts in ground.stores.texts_by_name.items()},
        "cells": {name: ground.first_of_cell(name) for name in ground.cells},
        "next": ground.processes.next_own,
    }


class GroundCase(unittest.TestCase):
    """Tests by deeds that are done on a ground."""

    def setUp(self):
        self.ground = Ground()

    def do(self, *deed):
        return do_deed(self.ground, deed)

    def done(self, *deeds):
        """What the deeds tell, one behind the other."""
        return [self.do(*deed) for deed in deeds]

    def refused(self, error, *deed):
        """The deed is refused by this very class, and nothing changes; told is the error."""
        before = seen(self.ground)
        told = refuses(self, error, self.do, *deed)
        self.assertEqual(seen(self.ground), before, deed)
        return told

    def owns(self):
        """The own numbers of all that go."""
        return [process.own for process in self.ground.processes.all_going()]

    def ended(self):
        """The own numbers of all that ended and are not waited for."""
        return [process.own for process in self.ground.processes.all_ended()]

    def elders(self):
        """The elders of all that there are, by own numbers."""
        return {own: process.elder for own, process in self.ground.processes.by_own.items()}

    def charges(self, name):
        """How many units, and how many processes, the group has."""
        return self.ground.groups.charges(name)


OF_ONE = [
    "elder_of", "group_of", "number_of", "seen_by", "holdings", "is_frozen", "mounts", "boxes",
]
OF_TWO = ["number_seen", "share_rooms"]
OF_GROUP = ["charges", "turns_of", "wants_of"]


def pictured(yard, name):
    """The cell's picture, or the name of the class by which it is refused."""
    try:
        return yard.picture(name)
    except CellError as error:
        return error.__class__.__name__


def files_read(yard, own):
    """All files that the process may read, with what they bear."""
    found = {}
    for at, name, held_fast in watching.mounts(yard, own):
        for rest, text in watching.files(yard, name):
            if len(at + rest) <= 4:
                found[at + rest] = watching.read(yard, own, at + rest)
    return found


def watched(yard):
    """All that is told of a yard."""
    owns = watching.processes(yard)
    names = [row[0] for row in watching.groups(yard)]
    told = {
        (what, own): getattr(watching, what)(yard, own) for what in OF_ONE for own in owns}
    told.update({
        (what, own, other): getattr(watching, what)(yard, own, other)
        for what in OF_TWO for own in owns for other in owns})
    told.update({(what, name): getattr(watching, what)(yard, name) for what in OF_GROUP for name in names})
    told.update({("files", name): watching.files(yard, name) for name in watching.stores(yard)})
    told.update({("read", own): files_read(yard, own) for own in owns})
    told.update({("picture", name): pictured(yard, name) for name, first in watching.cells(yard)})
    told.update({what: getattr(watching, what)(yard) for what in [
        "processes", "ended", "rooms", "groups", "stores", "cells"]})
    told.update({"len": len(yard), "repr": repr(yard), "deeds": deeds_of(yard)})
    return told


class YardCase(unittest.TestCase):
    """Tests by the methods of a yard."""

    def setUp(self):
        self.yard = Yard()

    def refused(self, error, do, *things, **named):
        """It is refused by this very class, and nothing changes; told is the error."""
        before = watched(self.yard)
        told = refuses(self, error, do, *things, **named)
        self.assertEqual(watched(self.yard), before, things)
        return told

"""Pictures of cells, and cells restored from them: [7.3], [7.4], and [0.2] (g)."""

import random
import unittest

import model
from cellyard.deeds import do_deed
from cellyard.errors import Capped, Frozen, NoCell, NoName, NoPicture, NotClosed, Taken
from cellyard.forms import is_picture
from cellyard.pictures import picture_of
from cellyard.yards import Ground
from drawing import Drawer
from helper import FAR_WHOLES, NO_NAMES, NO_WHOLES, GroundCase, nested, refuses, seen

LAYERS = (((("b", "c"), "two"), (("a",), "one")),)
PLAIN = (1, None, None, None)
FIRST = (0, ((0, 1),), 0, 0, 1, 0, 0, (0, 1), False, 0)
PLAIN_PICTURE = (1, (None, None, None), False, (), ((None, 2, 1),), ((((), False),),), ((),), (FIRST,))

# What each part of the picture below is, for reading the tests that change one.
HEFT, CAPS, FROZEN, FILES, NUMBERS, MOUNTS, BOXES, ROWS = range(8)
ELDER, WAYS, AT_MOUNTS, AT_BOXES, WEIGHT, UNITS, WANT, GOT, ENDED, OUTCOME = range(10)

# 1 is the first. 2 is the first of room 1 within, 3 and 5 are in it; 6 is the first of room 2, which lies in 1,
# and has ended; 7 ended in the first's room. 4 is no more.
PICTURE = (
    5, (9, 6, 8), False, ((("a",), "one"), (("b", "c"), "new")),
    ((None, 9, 1), (0, 6, 2), (1, 4, 6)),
    ((((), False),), (((), False), (("m",), True))),
    ((("a", "1"), ("b", "2")), ()),
    (
        (0, ((0, 1),), 0, 0, 1, 0, 0, (0, 1), False, 0),
        (1, ((0, 2), (1, 1)), 1, 0, 1, 3, 0, (0, 1), False, 0),
        (2, ((0, 3), (1, 2)), 1, 1, 7, 6, 5, (1, 3), False, 0),
        (3, ((0, 5), (1, 4)), 0, 1, 1, 0, 0, (0, 1), False, 0),
        (2, ((0, 6), (1, 5), (2, 1)), None, None, 1, 0, 0, (2, 1), True, 255),
        (1, ((0, 7),), None, None, 2, 0, 0, (0, 1), True, 0),
    ))


def put(thing, place, part):
    """The tuple with another part at this place, which is told by steps inwards."""
    if not place:
        return part
    return thing[:place[0]] + (put(thing[place[0]], place[1:], part),) + thing[place[0] + 1:]


def part_at(thing, place):
    """The part at this place."""
    for step in place:
        thing = thing[step]
    return thing


def places_in(thing, place=()):
    """All places of a tuple, its own first."""
    yield place
    if isinstance(thing, tuple):
        for step, part in enumerate(thing):
            yield from places_in(part, place + (step,))


class PictureCase(GroundCase):
    def opened(self, *deeds):
        """A cell x, whose first is 2, and these deeds."""
        self.do("cell", "x", LAYERS, 5, 9, 6, 8)
        return self.done(*deeds)

    def not_closed(self):
        before = seen(self.ground)
        refuses(self, NotClosed, picture_of, self.ground, "x")
        self.assertEqual(seen(self.ground), before)


class TestTold(PictureCase):
    def test_of_a_new_cell(self):
        self.do("cell", "x", (), *PLAIN)
        self.assertEqual(picture_of(self.ground, "x"), PLAIN_PICTURE)
        self.assertEqual(repr(picture_of(self.ground, "x")), repr(PLAIN_PICTURE))

    def test_weight_limits_and_files(self):
        self.opened(("write", 2, ("c",), "three"), ("freeze", "x"))
        told = picture_of(self.ground, "x")
        self.assertEqual(told[:4], (
            5, (9, 6, 8), True, ((("a",), "one"), (("b", "c"), "two"), (("c",), "three"))))
        self.done(("thaw", "x"), ("caps", "x", None, 1, 0))
        self.assertEqual(picture_of(self.ground, "x")[1:3], ((None, 1, 0), False))

    def test_rooms_and_processes(self):
        self.do("spawn", 1, ())
        self.assertEqual(self.do("cell", "x", LAYERS, 5, 9, None, 8), 3)
        self.done(("spawn", 3, ("numbers", "mounts")), ("spawn", 4, ("boxes",)), ("spawn", 4, ()), ("spawn", 5, ()))
        self.done(("spawn", 4, ("numbers",)), ("spawn", 3, ()), ("spawn", 3, ()), ("spawn", 8, ()), ("spawn", 8, ()))
        self.done(("finish", 6, 0), ("wait", 4), ("finish", 10, 0), ("wait", 3))
        self.done(("mount", 4, ("m",), "x", True), ("post", 4, "b", "2"), ("post", 9, "a", "1"), ("grow", 4, 3))
        self.done(("heft", 5, 7), ("want", 5, 5), ("grow", 5, 6), ("want", 8, 2), ("heft", 9, 2), ("tick", 3))
        self.done(("finish", 8, 255), ("finish", 9, 0), ("write", 3, ("b", "c"), "new"), ("caps", "x", 9, 6, 8))
        told = picture_of(self.ground, "x")
        self.assertEqual(told[:4], PICTURE[:4])
        self.assertEqual(told[NUMBERS], ((None, 11, 1), (0, 8, 2), (1, 4, 6)))
        self.assertEqual(told[MOUNTS], ((((), False),), (((), False), (("m",), True))))
        self.assertEqual(told[BOXES], ((("a", "1"), ("b", "2")), ()))
        self.assertEqual(told[ROWS], (
            (0, ((0, 1),), 0, 0, 1, 0, 0, (0, 1), False, 0),
            (1, ((0, 2), (1, 1)), 1, 0, 1, 3, 0, (0, 1), False, 0),
            (2, ((0, 3), (1, 2)), 1, 1, 7, 6, 5, (21, 8), False, 0),
            (3, ((0, 5), (1, 4)), 1, 1, 1, 0, 0, (0, 1), False, 0),
            (2, ((0, 6), (1, 5), (2, 1)), None, None, 1, 0, 0, (3, 8), True, 255),
            (1, ((0, 7),), None, None, 2, 0, 0, (0, 1), True, 0)))

    def test_rooms_by_the_order_in_which_they_are_met(self):
        self.opened(("spawn", 2, ()), ("spawn", 3, ("mounts", "boxes")), ("spawn", 2, ("mounts",)), ("finish", 4, 0))
        self.done(("spawn", 3, ("boxes",)), ("post", 6, "z", "z"), ("unmount", 5, ()))
        told = picture_of(self.ground, "x")
        self.assertEqual([row[AT_MOUNTS:WEIGHT] for row in told[ROWS]], [(0, 0), (0, 0), (None, None), (1, 0), (0, 1)])
        self.assertEqual((told[MOUNTS], told[BOXES]), (((((), False),), ()), ((), (("z", "z"),))))

    def test_no_cell(self):
        self.done(("group", "g", "yard", *PLAIN), ("store", "g", ()))
        for name in NO_NAMES + ["none", "g", "yard"]:
            refuses(self, NoCell, picture_of, self.ground, name)

    def test_told_twice_it_is_the_same(self):
        self.opened(("spawn", 2, ("numbers",)))
        before = seen(self.ground)
        self.assertEqual(picture_of(self.ground, "x"), picture_of(self.ground, "x"))
        self.assertEqual(seen(self.ground), before)

    def test_a_long_row_of_rooms(self):
        self.do("cell", "x", (), *PLAIN)
        for own in range(2, 300):
            self.do("spawn", own, ("numbers",))
        told = picture_of(self.ground, "x")
        self.assertEqual(len(told[ROWS][-1][WAYS]), 299)
        self.do("restore", "y", told)
        self.assertEqual(picture_of(self.ground, "y"), told)


class TestNotClosed(PictureCase):
    def test_the_first_does_not_go(self):
        self.opened(("finish", 2, 0))
        self.not_closed()

    def test_the_first_is_not_in_its_group(self):
        self.opened(("move", 2, "yard"))
        self.not_closed()
        self.do("move", 2, "x")
        picture_of(self.ground, "x")

    def test_a_group_lies_in_it(self):
        self.opened(("group", "in", "x", *PLAIN))
        self.not_closed()
        self.do("ungroup", "in")
        picture_of(self.ground, "x")

    def test_one_of_it_is_not_in_the_firsts_room(self):
        self.opened(("spawn", 1, ("mounts", "boxes")), ("move", 3, "x"))
        self.not_closed()
        self.do("move", 3, "yard")
        picture_of(self.ground, "x")

    def test_one_of_it_that_ended_is_not_in_the_firsts_room(self):
        self.opened(("spawn", 1, ()), ("spawn", 3, ()), ("move", 4, "x"), ("finish", 4, 0))
        self.not_closed()
        self.do("wait", 3)
        picture_of(self.ground, "x")

    def test_one_that_is_not_of_it_is_in_the_firsts_room(self):
        self.opened(("spawn", 2, ("numbers", "mounts", "boxes")), ("unmount", 3, ()), ("move", 3, "yard"))
        self.not_closed()
        self.do("move", 3, "x")
        picture_of(self.ground, "x")

    def test_one_that_is_not_of_it_and_ended_is_in_the_firsts_room(self):
        self.opened(("spawn", 2, ()), ("move", 3, "yard"), ("finish", 3, 0))
        self.not_closed()
        self.do("wait", 2)
        picture_of(self.ground, "x")

    def test_one_outside_has_the_same_rooms(self):
        self.opened(("spawn", 2, ("numbers", "boxes")), ("move", 3, "yard"))
        self.not_closed()
        self.setUp()
        self.opened(("spawn", 2, ("numbers", "mounts")), ("unmount", 3, ()), ("move", 3, "yard"))
        self.not_closed()

    def test_an_elder_is_outside(self):
        self.opened(("spawn", 2, ()), ("spawn", 3, ()), ("move", 3, "yard"))
        self.not_closed()

    def test_another_store_is_mounted_inside(self):
        self.opened(("store", "s", ()), ("spawn", 2, ("mounts",)), ("mount", 3, ("m",), "s", False))
        self.not_closed()
        self.do("finish", 3, 0)
        picture_of(self.ground, "x")

    def test_its_store_is_mounted_in_another_room(self):
        self.opened(("mount", 1, ("m",), "x", False))
        self.not_closed()
        self.done(("unmount", 1, ("m",)), ("spawn", 1, ("mounts",)), ("mount", 3, (), "x", True))
        self.not_closed()
        self.do("finish", 3, 0)
        picture_of(self.ground, "x")

    def test_other_stores_elsewhere_don_t_matter(self):
        self.opened(("store", "s", ()), ("mount", 1, (), "s", False), ("cell", "y", (), *PLAIN))
        picture_of(self.ground, "x")
        picture_of(self.ground, "y")

    def test_no_cell_ahead_of_that(self):
        self.opened(("finish", 2, 0), ("uncell", "x"))
        refuses(self, NoCell, picture_of, self.ground, "x")


class TestRestored(PictureCase):
    def test_all_is_as_the_picture_has_it(self):
        self.done(("spawn", 1, ()), ("finish", 2, 0))
        self.assertEqual(self.do("restore", "y", PICTURE), 3)
        self.assertEqual(picture_of(self.ground, "y"), PICTURE)
        self.assertEqual((self.owns(), self.ended()), ([1, 3, 4, 5, 6], [7, 8]))
        self.assertEqual(self.elders(), {1: None, 3: 1, 4: 3, 5: 4, 6: 5, 7: 4, 8: 3})
        numbers = [self.ground.rooms.numbers_of(own) for own in range(3, 9)]
        self.assertEqual(numbers, [[1, 3], [1, 2, 4], [2, 3, 5], [4, 5, 6], [1, 5, 6, 7], [7, 8]])
        self.assertEqual(self.ground.groups.rows()[0], ("y", "yard", 5, 9, 6, 8, False))
        self.assertEqual((self.charges("y"), self.charges("yard")), ((9, 6), (9, 7)))
        self.assertEqual(self.ground.stores.files_of("y"), list(PICTURE[FILES]))
        self.assertEqual(self.ground.first_of_cell("y"), 3)
        self.assertEqual(self.ground.rooms.many_rooms(), (4, 3, 3))
        self.assertEqual(self.ground.rooms.mounts_of(4), [((), "y", False), (("m",), "y", True)])
        self.assertEqual(self.ground.rooms.boxes_of(4), [("a", "1"), ("b", "2")])
        self.assertEqual(self.ground.rooms.shared_kinds(4, 5), ["numbers", "mounts"])

    def test_numbers_go_on_from_the_next(self):
        self.done(("restore", "y", PICTURE), ("caps", "y", None, None, None), ("spawn", 4, ()), ("spawn", 2, ()))
        self.assertEqual(self.ground.rooms.numbers_of(8), [6, 9, 8])
        self.assertEqual(self.ground.rooms.numbers_of(9), [10, 9])
        self.assertEqual(self.done(("wait", 3), ("wait", 2)), [(5, 255), (7, 0)])
        self.assertEqual(self.do("finish", 3, 0), 4)

    def test_frozen(self):
        self.assertEqual(self.do("restore", "y", put(PICTURE, (FROZEN,), True)), 2)
        self.assertEqual(self.refused(Frozen, "wait", 2).group, "y")
        self.assertEqual(picture_of(self.ground, "y"), put(PICTURE, (FROZEN,), True))
        self.assertEqual(self.do("thaw", "y"), 6)
        self.assertEqual(self.do("wait", 2), (7, 0))

    def test_several_of_one_picture(self):
        self.done(("restore", "y", PICTURE), ("restore", "z", PICTURE))
        self.done(("write", 2, ("a",), "other"), ("post", 2, "a", None), ("unmount", 2, ()))
        self.assertEqual(picture_of(self.ground, "z"), PICTURE)
        self.assertEqual(self.ground.rooms.shared_kinds(2, 8), [])

    def test_closed_again(self):
        before = seen(self.ground)
        self.do("restore", "y", PICTURE)
        self.assertEqual(self.do("uncell", "y"), 4)
        after = seen(self.ground)
        self.assertEqual({part for part in after if after[part] != before[part]}, {"numbers", "next"})

    def test_refusals_in_their_order(self):
        self.done(("group", "g", "yard", *PLAIN), ("store", "s", ()), ("caps", "yard", 8, 6, None))
        for name in NO_NAMES:
            self.refused(NoName, "restore", name, None)
        for thing in NO_WHOLES + FAR_WHOLES + [5, "picture", list(PICTURE), PICTURE[:7], PICTURE + (0,)]:
            self.refused(NoPicture, "restore", "g", thing)
        for name in ["g", "s", "yard"]:
            self.refused(Taken, "restore", name, PICTURE)
        self.assertEqual(self.refused(Capped, "restore", "y", PICTURE).group, "yard")
        self.do("caps", "yard", 8, 7, None)
        self.assertEqual(self.refused(Capped, "restore", "y", PICTURE).group, "yard")
        self.do("caps", "yard", 9, 6, None)
        self.assertEqual(self.refused(Capped, "restore", "y", PICTURE).group, "yard")
        self.do("caps", "yard", 9, 7, None)
        self.do("restore", "y", PICTURE)

    def test_numbers_of_any_size(self):
        big = put(PICTURE, (ROWS, 1, UNITS), 10 ** 5000)
        big = put(put(big, (CAPS,), (None, None, None)), (ROWS, 1, GOT), (10 ** 5000, 7))
        big = put(big, (NUMBERS, 0), (None, 10 ** 5000, 1))
        self.do("restore", "y", big)
        self.assertEqual(picture_of(self.ground, "y"), big)


class TestNoPicture(unittest.TestCase):
    def refused(self, place, *parts):
        """With each of these at this place the picture is none."""
        for part in parts:
            self.assertFalse(is_picture(put(PICTURE, place, part)), (place, part))

    def taken(self, place, *parts):
        for part in parts:
            self.assertTrue(is_picture(put(PICTURE, place, part)), (place, part))

    def test_the_picture_is_one(self):
        self.assertTrue(is_picture(PICTURE))
        self.assertTrue(is_picture(PLAIN_PICTURE))

    def test_other_things(self):
        for thing in NO_WHOLES + FAR_WHOLES + [(), PICTURE[:7], PICTURE + (0,), list(PICTURE), (PICTURE,)]:
            self.assertFalse(is_picture(thing))

    def test_any_thing_at_each_place(self):
        for place in places_in(PICTURE):
            self.refused(place, -1, "", "A b", [], [1], 1.5, {}, nested(6), nested(3000), -(10 ** 5000), ((None,),))
            if not isinstance(part_at(PICTURE, place), bool):
                self.refused(place, True, False)
            if not isinstance(part_at(PICTURE, place), (int, type(None))) or isinstance(part_at(PICTURE, place), bool):
                self.refused(place, 0, 1, 2, None)

    def test_each_tuple_as_a_list_shorter_and_longer(self):
        for place in places_in(PICTURE):
            part = part_at(PICTURE, place)
            if isinstance(part, tuple):
                self.refused(place, list(part), part + (None,))
                for step in range(len(part)):
                    if place + (step,) not in [(FILES, 0), (FILES, 1), (BOXES, 0, 0), (BOXES, 0, 1), (MOUNTS, 0, 0),
                                               (MOUNTS, 1, 0), (MOUNTS, 1, 1), (ROWS, 5), (ROWS, 4), (ROWS, 3),
                                               (FILES, 1, 0, 0), (FILES, 1, 0, 1)]:
                        self.refused(place, part[:step] + part[step + 1:])

    def test_weight_limits_and_frozen(self):
        self.taken((HEFT,), 1, 100)
        self.refused((HEFT,), 0, 101, None)
        for at in range(3):
            self.taken((CAPS, at), None, 9, 9999)
            self.refused((CAPS, at), -1, 10000, True, "9")
        self.taken((CAPS, 2), 0)
        self.taken((FROZEN,), True)
        self.refused((FROZEN,), 0, 1, None)

    def test_no_more_than_its_limits(self):
        self.refused((CAPS, 0), 8, 0)
        self.refused((CAPS, 1), 5, 0)
        self.refused((ROWS, 0, UNITS), 1)
        self.taken((CAPS, 0), 9, 10)
        self.taken((CAPS, 1), 6, 7)

    def test_files(self):
        one, two = PICTURE[FILES]
        self.taken((FILES,), (), (one,), (two,), (one, two, (("c",), "0")))
        self.refused((FILES,), (two, one), (one, one), (one, (("a",), "two")), (((), "one"),), (one, (("c",), None)))
        self.refused((FILES,), ((("a",), "one", "two"),), ((("a",),),), ((("a",) * 5, "one"),), (("a", "one"),))
        self.refused((FILES, 0, 1), "", "a b", "z" * 21, "A", None)
        self.taken((FILES, 0, 1), "z" * 20, "0")
        self.taken((FILES,), tuple(((name, other), "t") for name in "abcdefg" for other in "abcdefghij"))

    def test_rooms_of_mounts(self):
        room = PICTURE[MOUNTS][1]
        self.taken((MOUNTS, 1), (), room[:1], room[1:], room + ((("m", "n", "o", "p"), False),))
        self.refused((MOUNTS, 1), room[::-1], room + room[1:], room[:1] + ((("m",), 1),), room[:1] + ((("m",), None),))
        self.refused((MOUNTS, 1), (((), False), ((), True)), ((("m",) * 5, True),), (("m", True),), ((("m",),),))

    def test_rooms_of_boxes(self):
        room = PICTURE[BOXES][0]
        self.taken((BOXES, 0), (), room[:1], room + (("c", "z" * 20),))
        self.refused((BOXES, 0), room[::-1], room + room[1:], (("a", None),), (("A", "1"),), (("a", "z" * 21),))
        self.refused((BOXES, 0), (("a", "1"), ("a", "2")), (("a",),), (("a", "1", "2"),), (("abcdefg", "1"),))

    def test_rooms_are_all_met_and_in_order(self):
        self.refused((NUMBERS,), PICTURE[NUMBERS] + ((0, 2, 1),), PICTURE[NUMBERS][:2], ())
        self.refused((MOUNTS,), PICTURE[MOUNTS] + ((),), PICTURE[MOUNTS][:1], ())
        self.refused((BOXES,), PICTURE[BOXES] + ((),), PICTURE[BOXES][:1], ())
        self.refused((ROWS, 0, AT_MOUNTS), 1, 2, None)
        self.refused((ROWS, 0, AT_BOXES), 1, 2, None)
        self.taken((ROWS, 3, AT_MOUNTS), 0, 1)
        self.refused((ROWS, 3, AT_MOUNTS), 2, None)
        self.taken((ROWS, 3, AT_BOXES), 0, 1)
        self.refused((ROWS, 2, AT_BOXES), -1, 2, None)
        one, two = (1, ((0, 2), (1, 1)), 0, 0) + FIRST[4:], (1, ((0, 3), (2, 1)), 0, 0) + FIRST[4:]
        beside = put(put(PLAIN_PICTURE, (NUMBERS,), ((None, 4, 1), (0, 2, 2), (0, 2, 3))), (ROWS,), (FIRST, one, two))
        self.assertTrue(is_picture(beside))
        beside = put(put(beside, (ROWS, 1, WAYS, 1, 0), 2), (ROWS, 2, WAYS, 1, 0), 1)
        self.assertFalse(is_picture(put(beside, (NUMBERS,), ((None, 4, 1), (0, 2, 3), (0, 2, 2)))))
        swapped = put(put(PICTURE, (ROWS, 0, AT_MOUNTS), 1), (ROWS, 1, AT_MOUNTS), 0)
        self.assertFalse(is_picture(put(swapped, (MOUNTS,), PICTURE[MOUNTS][::-1])))

    def test_rooms_of_numbers(self):
        self.refused((NUMBERS, 0, 0), 0, 1, False)
        self.refused((NUMBERS, 1, 0), None, 1, 2)
        self.refused((NUMBERS, 2, 0), None, 0, 2, 3)
        for at, most in enumerate([7, 5, 1]):
            self.refused((NUMBERS, at, 1), None, 0, 1, most)
            self.taken((NUMBERS, at, 1), most + 1, most + 100)
        self.refused((NUMBERS, 0, 2), 0, 2, None)
        self.refused((NUMBERS, 1, 2), 0, 1, 3, None)
        self.refused((NUMBERS, 2, 2), 5, 7, 1)

    def test_ways(self):
        self.refused((ROWS, 2, WAYS), (), ((0, 3),), ((1, 2),), ((1, 2), (0, 3)), ((0, 3), (2, 2)), ((0, 3), (3, 2)))
        self.refused((ROWS, 2, WAYS), ((0, 3), (1, 2), (0, 3)), ((0, 3), (1, 2), (1, 3)), ((0, 3, 0), (1, 2)))
        self.refused((ROWS, 4, WAYS), ((0, 6), (2, 1)), ((0, 6), (1, 5), (2, 2)), ((0, 6), (1, 5)))
        # A place from behind is none, though the last room is met elsewhere.
        short = put(put(PICTURE, (ROWS,), PICTURE[ROWS][:4]), (NUMBERS,), PICTURE[NUMBERS][:2])
        self.assertTrue(is_picture(short))
        self.assertFalse(is_picture(put(short, (ROWS, 2, WAYS, 1, 0), -1)))

    def test_numbers_are_unlike_and_below_the_next(self):
        self.refused((ROWS, 2, WAYS), ((0, 2), (1, 2)), ((0, 1), (1, 2)), ((0, 5), (1, 2)), ((0, 3), (1, 4)))
        self.refused((ROWS, 2, WAYS), ((0, 3), (1, 1)), ((0, 3), (1, 0)), ((0, 0), (1, 2)), ((0, 3), (1, 5)))
        self.taken((ROWS, 2, WAYS), ((0, 3), (1, 3)))
        self.refused((ROWS, 5, WAYS), ((0, 9),), ((0, 10),), ((0, 6),))
        self.taken((ROWS, 5, WAYS), ((0, 8),))

    def test_numbers_rise_as_processes_come(self):
        rows = PICTURE[ROWS]
        self.refused((ROWS,), rows[:4] + (rows[5], rows[4]), (rows[1], rows[0]) + rows[2:])
        # 5 came behind 3, so it has a higher number in their room, too.
        crossed = put(put(PICTURE, (ROWS, 2, WAYS, 1, 1), 4), (ROWS, 3, WAYS, 1, 1), 2)
        self.assertFalse(is_picture(crossed))

    def test_each_rooms_first(self):
        self.refused((ROWS, 0, WAYS), ((0, 2),), ((0, 1), (1, 1)))
        self.refused((ROWS, 1, WAYS), ((0, 2), (1, 2)), ((0, 2),))
        self.refused((ROWS,), PICTURE[ROWS][:1] + PICTURE[ROWS][2:], PICTURE[ROWS][1:], ())
        # The first of room 1 has to be in it itself.
        deeper = put(PICTURE, (ROWS,), PICTURE[ROWS][:1] + ((1, ((0, 2), (1, 1), (2, 1)), 0, 0) + FIRST[4:],))
        deeper = put(put(put(deeper, (NUMBERS,), ((None, 9, 1), (0, 6, 2), (1, 4, 2))), (MOUNTS,), ((),)), (BOXES,), ((),))
        self.assertFalse(is_picture(deeper))

    def test_the_first_that_ended_is_alone(self):
        ended = (None, None, 1, 0, 0, (0, 1), True, 0)
        self.refused((ROWS, 1), (1, ((0, 2), (1, 1))) + ended)
        beside = PICTURE[ROWS] + ((6, ((0, 8), (1, 3), (2, 2))) + (0, 0) + FIRST[4:],)
        self.refused((ROWS,), beside)
        self.refused((ROWS, 0), (0, ((0, 1),)) + ended)
        self.assertFalse(is_picture(put(PLAIN_PICTURE, (ROWS, 0), (0, ((0, 1),)) + ended)))
        self.assertFalse(is_picture(PLAIN_PICTURE[:MOUNTS] + ((), (), ((0, ((0, 1),)) + ended,))))

    def test_somebody_is_there(self):
        self.assertFalse(is_picture(PLAIN_PICTURE[:NUMBERS] + ((), (), (), ())))
        self.assertFalse(is_picture(PLAIN_PICTURE[:ROWS] + ((),)))

    def test_elders(self):
        self.refused((ROWS, 0, ELDER), 1, 2, 3)
        self.refused((ROWS, 1, ELDER), 0, 2, 3, 4, 7)
        # 2 and 3 are in the room of 5 and ahead of it; 1 is not in it, 5 is itself, 6 and 7 ended.
        self.taken((ROWS, 3, ELDER), 2, 3)
        self.refused((ROWS, 3, ELDER), 0, 1, 4, 5, 6, 7, 9)
        self.refused((ROWS, 2, ELDER), 0, 1, 3, 5, 6)
        # The first of a room has its elder in the room around it.
        self.taken((ROWS, 4, ELDER), 2, 3, 5)
        self.refused((ROWS, 4, ELDER), 0, 1, 4, 6, 7)
        self.refused((ROWS, 5, ELDER), 0, 2, 3, 6, 7)
        # 7 ended, and 8 is in its room and behind it.
        later = ((0, 8),), 0, 0, 1, 0, 0, (0, 1), False, 0
        more = put(PICTURE, (CAPS, 1), None)
        self.assertTrue(is_picture(put(more, (ROWS,), PICTURE[ROWS] + ((1,) + later,))))
        for elder in [0, 2, 4, 7, 8, 9]:
            self.assertFalse(is_picture(put(more, (ROWS,), PICTURE[ROWS] + ((elder,) + later,))))

    def test_what_processes_hold(self):
        self.taken((ROWS, 2, WEIGHT), 1, 100)
        self.refused((ROWS, 2, WEIGHT), 0, 101, None)
        self.taken((ROWS, 2, UNITS), 0, 5)
        self.refused((ROWS, 2, UNITS), -1, 7, None)
        self.taken((ROWS, 2, WANT), 0, 999)
        self.refused((ROWS, 2, WANT), -1, 1000, None)
        self.taken((ROWS, 2, GOT), (0, 1), (5, 1), (7, 1000))
        self.refused((ROWS, 2, GOT), (0, 2), (2, 4), (1, 0), (-1, 3), (1, -3), (True, 3), (1, True), 1, (1,), (1, 2, 3))
        self.refused((ROWS, 2, ENDED), True, 0, None)
        self.refused((ROWS, 2, OUTCOME), 1, 9, None, False)

    def test_who_ended_holds_and_wants_nothing(self):
        self.refused((ROWS, 5, UNITS), 1)
        self.refused((ROWS, 5, WANT), 1)
        self.refused((ROWS, 5, AT_MOUNTS), 0)
        self.refused((ROWS, 5, AT_BOXES), 0)
        self.refused((ROWS, 5, ENDED), False, 1)
        self.taken((ROWS, 5, OUTCOME), 0, 1, 255)
        self.refused((ROWS, 5, OUTCOME), -1, 256, None, False)
        self.taken((ROWS, 5, GOT), (3, 7))
        self.taken((ROWS, 5, WEIGHT), 100)


class TestAgainstTheReckoning(unittest.TestCase):
    """Pictures of drawn yards, changed here and there: the plain reckoning says which of them are still pictures."""

    def drawn_pictures(self):
        found = {PICTURE: True}
        for seed in range(60):
            drawn = model.Model()
            drawer = Drawer(random.Random(seed), drawn)
            for many in range(120):
                try:
                    drawn.do(drawer.deed())
                except model.Refused:
                    pass
            for name in drawn.cells:
                if drawn.is_closed(name):
                    found[drawn.picture(name)] = True
        return list(found)

    def changed(self, rng, picture):
        place = rng.choice(list(places_in(picture)))
        part = part_at(picture, place)
        if isinstance(part, tuple) and part:
            at, other = rng.randrange(len(part)), rng.randrange(len(part))
            parts = list(part)
            parts[at], parts[other] = parts[other], parts[at]
            return put(picture, place, rng.choice([
                part[:at] + part[at + 1:], part[:at] + part[other:], tuple(parts), parts]))
        choices = [0, 1, 2, 3, 5, True, False, None, "a", "z", "", 1000, ()]
        if isinstance(part, int):
            choices += [part + 1, part - 1] * 6 + [not part] * 3
        return put(picture, place, rng.choice(choices))

    def test_changed_pictures(self):
        rng = random.Random(11)
        pictures = self.drawn_pictures()
        told = {True: 0, False: 0}
        for many in range(6000):
            picture = self.changed(rng, rng.choice(pictures))
            if isinstance(picture, tuple) and rng.random() < 0.3:
                picture = self.changed(rng, picture)
            told[is_picture(picture)] += 1
            self.assertEqual(is_picture(picture), model.is_picture(picture), picture)
        self.assertGreater(min(told.values()), 500)


class TestGoesOnAlike(unittest.TestCase):
    """[0.2] (g): the pictured cell and the restored one, by the same deeds."""

    def drawn(self, rng, numbers):
        """A deed inside a cell, whose processes are told by numbers in the first's room."""
        number = rng.choice(numbers)
        path = tuple(rng.choice("mn") for many in range(rng.randrange(3)))
        return rng.choice([
            ("spawn", number, tuple(rng.sample(("numbers", "mounts", "boxes"), rng.randrange(3)))),
            ("spawn", number, ()), ("finish", number, rng.randrange(256)), ("strike", number, rng.randrange(6)),
            ("wait", number), ("wait", number), ("want", number, rng.randrange(9)), ("heft", number, 3),
            ("grow", number, 4), ("shrink", number, 2), ("mount", number, path, "cell", False), ("unmount", number, path),
            ("write", number, path, "t"), ("erase", number, path), ("post", number, "b", rng.choice(["t", None])),
            ("freeze", "cell"), ("thaw", "cell"), ("thaw", "cell"), ("caps", "cell", 20, 9, rng.choice([None, 7])),
            ("tick", 9999),
        ])

    def done_inside(self, ground, name, deed):
        """What the deed does in this cell; told own numbers are those in the first's room."""
        by_number = dict(ground.rooms.seen_from(ground.cells[name]))
        numbers = {own: number for number, own in by_number.items()}
        parts = [name if part == "cell" else part for part in deed[1:]]
        if isinstance(parts[0], int) and deed[0] != "tick":
            parts[0] = by_number.get(parts[0], 0)
        try:
            told = do_deed(ground, (deed[0], *parts))
        except Exception as error:
            return error.__class__.__name__
        if deed[0] == "spawn":
            return ground.rooms.number_seen(ground.cells[name], told)
        return [(numbers[own], share) for own, share in told if own in numbers] if deed[0] == "tick" else told

    def test_by_the_same_deeds(self):
        for seed in range(40):
            rng = random.Random(seed)
            here, there = Ground(), Ground()
            do_deed(here, ("cell", "x", LAYERS, 3, 20, 9, None))
            for many in range(30):
                numbers = [number for number, own in here.rooms.seen_from(here.cells["x"]) if number]
                deed = self.drawn(rng, numbers)
                if deed[:2] not in [("finish", 1), ("strike", 1)]:
                    self.done_inside(here, "x", deed)
            do_deed(there, ("spawn", 1, ()))
            do_deed(there, ("restore", "y", picture_of(here, "x")))
            for many in range(40):
                self.assertEqual(picture_of(there, "y"), picture_of(here, "x"))
                numbers = [number for number, own in here.rooms.seen_from(here.cells["x"])]
                deed = self.drawn(rng, numbers)
                if deed[:2] != ("finish", 1):
                    told = self.done_inside(here, "x", deed)
                    self.assertEqual(self.done_inside(there, "y", deed), told, deed)
            self.assertEqual(do_deed(there, ("uncell", "y")), do_deed(here, ("uncell", "x")))


if __name__ == "__main__":
    unittest.main()

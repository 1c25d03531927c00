"""Cells, opened and closed: [7.1], [7.2], what [3.2] and [6.1] say of them, and [0.2] (h)."""

import unittest

from cellyard.errors import Capped, Frozen, Held, NoCell, NoGroup, NoLayers, NoName, NoNumber, Taken
from helper import FAR_WHOLES, NO_NAMES, NO_WHOLES, GroundCase

ALL = ("numbers", "mounts", "boxes")
LAYERS = (((("a",), "one"), (("b", "c"), "two")), ((("b", "c"), None),))
PLAIN = (1, None, None, None)


class TestOpened(GroundCase):
    def test_what_a_cell_is(self):
        self.done(("store", "s", ()), ("mount", 1, ("m",), "s", False), ("post", 1, "b", "t"))
        self.assertEqual(self.do("cell", "x", LAYERS, 5, 7, 8, 9), 2)
        self.assertEqual(self.ground.groups.rows()[0], ("x", "yard", 5, 7, 8, 9, False))
        self.assertEqual((self.charges("yard"), self.charges("x")), ((0, 2), (0, 1)))
        self.assertEqual(self.ground.stores.files_of("x"), [(("a",), "one")])
        first = self.ground.processes.going(2)
        self.assertEqual((first.elder, first.group, first.heft, first.units, first.want), (1, "x", 1, 0, 0))
        self.assertEqual(self.ground.rooms.numbers_of(2), [1, 2])
        self.assertEqual(self.ground.rooms.shared_kinds(1, 2), [])
        self.assertEqual(self.ground.rooms.mounts_of(2), [((), "x", False)])
        self.assertEqual(self.ground.rooms.boxes_of(2), [])
        self.assertEqual(self.ground.rooms.many_rooms(), (2, 2, 2))
        self.assertEqual(self.ground.first_of_cell("x"), 2)

    def test_several(self):
        self.assertEqual(self.done(("cell", "x", (), *PLAIN), ("cell", "y", (), *PLAIN)), [2, 3])
        self.assertEqual(self.ground.rooms.numbers_of(3), [1, 3])
        self.assertEqual(self.ground.rooms.shared_kinds(2, 3), [])

    def test_the_first_writes_into_the_store(self):
        self.done(("cell", "x", LAYERS, *PLAIN), ("write", 2, ("a",), "new"), ("write", 2, ("p", "q"), "more"))
        self.assertEqual(self.ground.stores.files_of("x"), [(("a",), "new"), (("p", "q"), "more")])

    def test_refusals_in_their_order(self):
        self.done(("group", "g", "yard", *PLAIN), ("store", "s", ()), ("caps", "yard", None, 1, None))
        for name in NO_NAMES:
            self.refused(NoName, "cell", name, None, 0, -1, -1, -1)
        for layers in [None, [], (1,), ((((), "x"),),), ((),) * 5, "", 0]:
            self.refused(NoLayers, "cell", "g", layers, 0, -1, -1, -1)
        for heft in NO_WHOLES + FAR_WHOLES + [0, 101]:
            self.refused(NoNumber, "cell", "g", (), heft, None, None, None)
        for cap in [thing for thing in NO_WHOLES if thing is not None] + FAR_WHOLES + [-1, 10000]:
            self.refused(NoNumber, "cell", "g", (), 1, cap, None, None)
            self.refused(NoNumber, "cell", "g", (), 1, None, cap, None)
            self.refused(NoNumber, "cell", "g", (), 1, None, None, cap)
        for name in ["g", "s", "yard"]:
            self.refused(Taken, "cell", name, (), 1, None, 0, None)
        self.assertEqual(self.refused(Capped, "cell", "x", (), 1, None, 0, None).group, "yard")
        self.do("caps", "yard", None, 2, None)
        self.refused(NoNumber, "cell", "x", (), 1, None, 0, None)
        self.assertEqual(self.do("cell", "x", (), 1, 0, 1, 0), 2)
        self.refused(Taken, "cell", "x", (), *PLAIN)

    def test_where_the_limits_of_the_yard_are_met_just_so(self):
        self.done(("grow", 1, 5), ("caps", "yard", 5, 2, None), ("cell", "x", (), *PLAIN))
        self.assertEqual(self.charges("yard"), (5, 2))

    def test_its_group_and_its_store_go_with_it_alone(self):
        self.do("cell", "x", (), *PLAIN)
        self.refused(Held, "ungroup", "x")
        self.refused(Held, "unstore", "x")
        self.done(("unmount", 2, ()), ("finish", 2, 0))
        self.assertEqual(self.charges("x"), (0, 0))
        self.assertIsNone(self.ground.first_of_cell("x"))
        self.refused(Held, "ungroup", "x")
        self.refused(Held, "unstore", "x")
        self.assertEqual(self.do("uncell", "x"), 0)
        self.refused(NoGroup, "ungroup", "x")

    def test_refusals_of_a_group_that_is_none(self):
        for name in NO_NAMES + ["yard", "none"]:
            self.refused(NoGroup, "ungroup", name)

    def test_its_first_may_move_away(self):
        self.done(("cell", "x", (), *PLAIN), ("move", 2, "yard"))
        self.assertEqual(self.ground.first_of_cell("x"), 2)
        self.assertEqual(self.charges("x"), (0, 0))


class TestClosed(GroundCase):
    def test_with_all_that_is_in_it(self):
        self.done(("cell", "x", LAYERS, *PLAIN), ("spawn", 2, ALL), ("spawn", 3, ()), ("spawn", 2, ()))
        self.done(("group", "in", "x", *PLAIN), ("group", "inin", "in", *PLAIN), ("move", 4, "inin"), ("grow", 4, 5))
        self.done(("finish", 5, 1), ("freeze", "x"))
        self.assertEqual(self.do("uncell", "x"), 3)
        self.assertEqual((self.owns(), self.ended()), ([1], []))
        self.assertEqual(self.ground.groups.rows(), [("yard", None, 1, None, None, None, False)])
        self.assertEqual(self.charges("yard"), (0, 1))
        self.assertEqual((self.ground.stores.texts_by_name, self.ground.cells), ({}, {}))
        self.assertEqual(self.ground.rooms.many_rooms(), (1, 1, 1))
        self.assertEqual(self.do("cell", "x", (), *PLAIN), 6)
        self.assertEqual(self.ground.rooms.numbers_of(6), [1, 6])

    def test_those_that_end_with_rooms_count_too(self):
        self.done(("cell", "x", (), *PLAIN), ("spawn", 2, ("mounts",)), ("spawn", 3, ()), ("unmount", 3, ()))
        self.done(("move", 3, "yard"), ("move", 4, "yard"), ("spawn", 4, ()), ("finish", 5, 1))
        # 2 is in the group; 3 and 4 are outside, but in the room of which 2 is the first; 5 ended ahead.
        self.assertEqual(self.do("uncell", "x"), 3)
        self.assertEqual((self.owns(), self.ended(), self.charges("yard")), ([1], [], (0, 1)))

    def test_those_that_moved_in(self):
        self.done(("cell", "x", (), *PLAIN), ("spawn", 1, ()), ("spawn", 3, ()), ("spawn", 3, ("numbers",)))
        self.done(("spawn", 5, ()), ("move", 3, "x"), ("spawn", 4, ()), ("finish", 7, 7))
        self.assertEqual(self.do("uncell", "x"), 2)
        # 4 and 5 have lost their elder, 3; the first of the room of 3 is the first of the yard.
        self.assertEqual(self.elders(), {1: None, 4: 1, 5: 1, 6: 5, 7: 4})
        self.assertEqual((self.owns(), self.ended()), ([1, 4, 5, 6], [7]))

    def test_one_that_ended_outside_gets_another_elder(self):
        self.done(("spawn", 1, ("numbers",)), ("spawn", 2, ()), ("spawn", 3, ()), ("finish", 4, 4))
        self.done(("cell", "x", (), *PLAIN), ("move", 3, "x"))
        self.assertEqual(self.do("uncell", "x"), 2)
        self.assertEqual(self.do("wait", 2), (3, 4))

    def test_one_that_ended_outside_is_no_more_where_the_first_of_the_yard_is_its_elder_then(self):
        self.done(("spawn", 1, ()), ("spawn", 2, ()), ("finish", 3, 4), ("cell", "x", (), *PLAIN), ("move", 2, "x"))
        self.assertEqual(self.do("uncell", "x"), 2)
        self.assertEqual((self.owns(), self.ended()), ([1], []))

    def test_one_that_ended_inside_with_its_elder_outside(self):
        self.done(("spawn", 1, ()), ("spawn", 2, ()), ("cell", "x", (), *PLAIN), ("move", 3, "x"), ("finish", 3, 3))
        self.assertEqual(self.do("uncell", "x"), 1)
        self.assertEqual((self.owns(), self.ended()), ([1, 2], []))

    def test_the_first_of_a_room_elsewhere(self):
        self.done(("spawn", 1, ("numbers",)), ("spawn", 2, ()), ("cell", "x", (), *PLAIN), ("move", 2, "x"))
        self.assertEqual(self.do("uncell", "x"), 3)
        self.assertEqual(self.owns(), [1])

    def test_held(self):
        self.done(("cell", "x", (), *PLAIN), ("mount", 1, ("m",), "x", True))
        self.refused(Held, "uncell", "x")
        self.done(("unmount", 1, ("m",)), ("spawn", 2, ()), ("move", 3, "yard"))
        # 3 is in the same room of mounts as 2, where the store is mounted.
        self.refused(Held, "uncell", "x")
        self.done(("finish", 3, 0))
        self.assertEqual(self.do("uncell", "x"), 1)

    def test_mounted_for_one_within_is_not_held(self):
        self.done(("cell", "x", (), *PLAIN), ("group", "in", "x", *PLAIN), ("spawn", 1, ("mounts",)))
        self.done(("mount", 3, ("m",), "x", False))
        self.refused(Held, "uncell", "x")
        self.do("move", 3, "in")
        self.assertEqual(self.do("uncell", "x"), 2)

    def test_other_stores_stay(self):
        self.done(("store", "s", LAYERS), ("cell", "x", (), *PLAIN), ("mount", 2, ("m",), "s", False))
        self.refused(Held, "unstore", "s")
        self.do("uncell", "x")
        self.assertIsNone(self.do("unstore", "s"))

    def test_no_cell(self):
        self.done(("group", "g", "yard", *PLAIN), ("store", "g", ()))
        for name in NO_NAMES + ["none", "g", "yard"]:
            self.refused(NoCell, "uncell", name)

    def test_a_frozen_cell_is_closed(self):
        self.done(("cell", "x", (), *PLAIN), ("freeze", "x"))
        self.refused(Frozen, "finish", 2, 0)
        self.assertEqual(self.do("uncell", "x"), 1)

    def test_many_groups_one_in_another(self):
        outer = "x"
        self.do("cell", "x", (), *PLAIN)
        for at in range(800):
            name = "".join("abcdefghij"[int(figure)] for figure in str(at))
            self.do("group", name, outer, *PLAIN)
            outer = name
        self.assertEqual(self.do("uncell", "x"), 1)
        self.assertEqual(len(self.ground.groups.by_name), 1)


if __name__ == "__main__":
    unittest.main()

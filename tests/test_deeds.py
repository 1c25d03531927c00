"""Deeds as tuples: [9.1], as far as it names each deed, its word and its parts in their order."""

import unittest

from cellyard.deeds import is_deed
from cellyard.errors import NoDeeds
from cellyard.pictures import picture_of
from helper import NO_TEXTS, GroundCase, nested

LAYERS = (((("a",), "one"), (("b",), "two")),)
# Each deed once, in an order in which none is refused, with what it tells.
ALL_DEEDS = [
    (("group", "g", "yard", 2, 50, 9, 8), None),
    (("group", "h", "g", 1, None, None, None), None),
    (("caps", "g", 60, 8, 7), None),
    (("ungroup", "h"), None),
    (("spawn", 1, ()), 2),
    (("move", 2, "g"), None),
    (("freeze", "g"), 1),
    (("thaw", "g"), 1),
    (("spawn", 2, ("boxes", "mounts")), 3),
    (("spawn", 2, ("numbers",)), 4),
    (("finish", 3, 6), 1),
    (("strike", 2, 4), 1),
    (("wait", 2), (3, 6)),
    (("want", 2, 9), None),
    (("heft", 2, 4), None),
    (("grow", 2, 30), 30),
    (("shrink", 2, 10), 20),
    (("tick", 100), [(2, (7, 1))]),
    (("store", "s", LAYERS), 2),
    (("store", "t", ()), 0),
    (("unstore", "t"), None),
    (("mount", 2, ("m",), "s", False), None),
    (("mount", 2, ("n",), "s", True), None),
    (("unmount", 2, ("n",)), None),
    (("write", 2, ("m", "c"), "three"), None),
    (("erase", 2, ("m", "a")), None),
    (("post", 2, "b", "text"), None),
    (("post", 2, "c", None), None),
    (("cell", "x", LAYERS, 3, 4, 5, 6), 5),
    (("restore", "y", (
        3, (4, 5, 6), False, LAYERS[0], ((None, 2, 1),), ((((), False),),), ((),),
        ((0, ((0, 1),), 0, 0, 1, 0, 0, (0, 1), False, 0),))), 6),
    (("uncell", "x"), 1),
]
LENGTHS = {deed[0]: len(deed) for deed, told in ALL_DEEDS}


class TestDeeds(GroundCase):
    def test_each_deed_with_its_parts_in_their_order(self):
        self.assertEqual(len(LENGTHS), 25)
        for deed, told in ALL_DEEDS:
            self.assertTrue(is_deed(deed))
            self.assertEqual(self.do(*deed), told, deed)
        ground = self.ground
        self.assertEqual(ground.groups.rows(), [
            ("g", "yard", 2, 60, 8, 7, False), ("y", "yard", 3, 4, 5, 6, False),
            ("yard", None, 1, None, None, None, False)])
        self.assertEqual((self.owns(), self.ended()), ([1, 2, 6], [4]))
        two = ground.processes.going(2)
        self.assertEqual((two.group, two.heft, two.units, two.want, two.got), ("g", 4, 20, 9, (7, 1)))
        self.assertEqual(ground.processes.by_own[4].outcome, 9)
        self.assertEqual(ground.stores.files_of("s"), [(("b",), "two"), (("c",), "three")])
        self.assertEqual(ground.rooms.mounts_of(1), [(("m",), "s", False)])
        self.assertEqual(ground.rooms.boxes_of(1), [("b", "text")])
        self.assertEqual(list(ground.cells), ["y"])
        self.assertEqual(picture_of(ground, "y"), ALL_DEEDS[-2][0][2])

    def test_parts_that_may_be_left_out(self):
        ground = self.ground
        self.assertEqual([ground.spawn(1), ground.open_cell("x", ()), ground.spawn(2), ground.finish(4)], [2, 3, 4, 1])
        self.assertEqual(ground.rooms.shared_kinds(1, 2), ["numbers", "mounts", "boxes"])
        self.assertEqual(ground.groups.rows()[0], ("x", "yard", 1, None, None, None, False))
        self.assertEqual(ground.wait(2), (4, 0))
        ground.mount(1, (), "x")
        self.assertEqual(ground.rooms.mounts_of(1), [((), "x", False)])

    def test_what_is_no_deed(self):
        for thing in NO_TEXTS + ["spawn", "", ["spawn", 1, ()], [], (), ("",), ("dance", 1), ("Spawn", 1, ()), (1, 2),
                                 ((),), (("spawn", 1, ()),), (["spawn"], 1, ()), ("spawn ", 1, ()), nested(6, "wait")]:
            self.assertFalse(is_deed(thing), thing)

    def test_other_lengths(self):
        for word, length in LENGTHS.items():
            for many in range(12):
                deed = (word,) + (1,) * many
                self.assertEqual(is_deed(deed), many + 1 == length, deed)

    def test_no_deed_is_refused(self):
        for deed in [(), ("dance",), ("spawn",), ("spawn", 1), ("spawn", 1, (), ()), ("wait", 1, 1), (None, 1), ([], 1)]:
            self.refused(NoDeeds, *deed)


if __name__ == "__main__":
    unittest.main()

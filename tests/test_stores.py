"""Stores, mounts, files and boxes of a yard: [6.1] to [6.3], and [0.2] (e)."""

import unittest

from cellyard.errors import (
    Fixed, Held, NoFile, NoLayers, NoMount, NoName, NoNumber, NoPath, NoStore, NoWords, Taken)
from helper import NO_NAMES, NO_PATHS, NO_WORDS, GroundCase, nested

LAYERS = (((("a",), "one"), (("a", "b"), "two")), ((("c", "d", "e", "f"), "three"), (("a",), None)))
NO_LAYERS = [
    None, True, 0, "", "a", [], [()], ([],), (None,), ((("a",), "x"),), (((), ()),), ((((), "x"),),),
    (((("a",), ""),),), (((("a",), "x"), (("a",), "y")),), ((),) * 5, (((("a",), "x", "y"),),), (((["a"], "x"),),),
    nested(6, "a"), nested(3000, "a"),
]
NO_STORES = NO_NAMES + ["none"]


class TestStores(GroundCase):
    def test_added(self):
        self.assertEqual(self.do("store", "s", LAYERS), 2)
        self.assertEqual(self.do("store", "abcdef", ()), 0)
        self.assertEqual(self.ground.stores.files_of("s"), [(("a", "b"), "two"), (("c", "d", "e", "f"), "three")])
        self.assertEqual(self.ground.stores.files_of("abcdef"), [])

    def test_added_refused(self):
        self.do("store", "s", ())
        for name in NO_NAMES:
            self.refused(NoName, "store", name, None)
        for layers in NO_LAYERS:
            self.refused(NoLayers, "store", "s", layers)
            self.refused(NoLayers, "store", "t", layers)
        self.refused(Taken, "store", "s", LAYERS)

    def test_a_group_may_have_the_same_name(self):
        self.assertEqual(self.done(("group", "s", "yard", 1, None, None, None), ("store", "s", ())), [None, 0])
        self.assertEqual(self.done(("store", "g", ()), ("group", "g", "yard", 1, None, None, None)), [0, None])

    def test_removed(self):
        self.done(("store", "s", ()), ("store", "t", ()))
        self.assertIsNone(self.do("unstore", "s"))
        self.assertEqual(list(self.ground.stores.texts_by_name), ["t"])
        self.assertEqual(self.do("store", "s", LAYERS), 2)

    def test_removed_refused(self):
        self.done(("store", "s", ()), ("cell", "x", (), 1, None, None, None), ("spawn", 1, ("mounts",)))
        for name in NO_STORES:
            self.refused(NoStore, "unstore", name)
        self.refused(Held, "unstore", "x")
        self.done(("unmount", 2, ()))
        self.refused(Held, "unstore", "x")
        self.done(("mount", 3, ("m",), "s", False))
        self.refused(Held, "unstore", "s")
        self.done(("unmount", 3, ("m",)), ("unstore", "s"))

    def test_a_room_that_is_no_more_holds_nothing(self):
        self.done(("store", "s", ()), ("spawn", 1, ()), ("spawn", 2, ("mounts",)), ("mount", 3, (), "s", False))
        self.refused(Held, "unstore", "s")
        self.done(("finish", 3, 0), ("unstore", "s"))


class TestMounts(GroundCase):
    def setUp(self):
        GroundCase.setUp(self)
        self.done(("store", "s", LAYERS), ("store", "t", ()), ("spawn", 1, ()))

    def test_mounted_for_all_in_the_room(self):
        self.assertIsNone(self.do("mount", 2, ("m", "n"), "s", True))
        self.do("mount", 1, (), "t", False)
        for own in [1, 2]:
            self.assertEqual(self.ground.rooms.mounts_of(own), [((), "t", False), (("m", "n"), "s", True)])
        self.assertIsNone(self.do("unmount", 1, ("m", "n")))
        self.assertEqual(self.ground.rooms.mounts_of(2), [((), "t", False)])

    def test_longest_and_shortest_paths(self):
        self.done(("mount", 1, ("a", "b", "c", "d"), "s", False), ("mount", 1, (), "s", False))
        self.assertEqual(len(self.ground.rooms.mounts_of(1)), 2)

    def test_refusals_in_their_order(self):
        self.do("mount", 1, ("m",), "s", False)
        for path in NO_PATHS:
            self.refused(NoPath, "mount", 1, path, "none", None)
            self.refused(NoPath, "unmount", 1, path)
        for name in NO_STORES:
            self.refused(NoStore, "mount", 1, ("m",), name, None)
        for held_fast in [None, 0, 1, "", "yes", [], (), (True,), nested(6)]:
            self.refused(NoNumber, "mount", 1, ("m",), "s", held_fast)
        self.refused(Taken, "mount", 1, ("m",), "t", True)
        self.refused(NoMount, "unmount", 1, ())
        self.refused(NoMount, "unmount", 1, ("m", "n"))

    def test_a_new_room_goes_its_own_way(self):
        self.done(("mount", 1, ("m",), "s", False), ("spawn", 1, ("mounts",)), ("mount", 3, (), "t", False))
        self.do("unmount", 1, ("m",))
        self.assertEqual(self.ground.rooms.mounts_of(1), [])
        self.assertEqual(self.ground.rooms.mounts_of(3), [((), "t", False), (("m",), "s", False)])


class TestFiles(GroundCase):
    def setUp(self):
        GroundCase.setUp(self)
        self.done(("store", "s", LAYERS), ("store", "t", ()))

    def files(self, name):
        return dict(self.ground.stores.files_of(name))

    def test_the_longest_mounted_path_that_is_shorter(self):
        self.done(("mount", 1, (), "s", False), ("mount", 1, ("m",), "t", False), ("store", "u", ()))
        self.done(("mount", 1, ("m", "n"), "u", False))
        self.done(("write", 1, ("m",), "1"), ("write", 1, ("m", "n"), "2"), ("write", 1, ("m", "n", "o"), "3"))
        self.done(("write", 1, ("n", "m", "n", "o"), "4"))
        self.assertEqual(self.files("s")[("m",)], "1")
        self.assertEqual(self.files("s")[("n", "m", "n", "o")], "4")
        self.assertEqual(self.files("t"), {("n",): "2"})
        self.assertEqual(self.files("u"), {("o",): "3"})

    def test_written_and_erased(self):
        self.do("mount", 1, ("m",), "s", False)
        self.assertIsNone(self.do("write", 1, ("m", "a", "b"), "new"))
        self.assertIsNone(self.do("write", 1, ("m", "x"), "z" * 20))
        self.assertIsNone(self.do("write", 1, ("m", "y"), "0"))
        self.assertIsNone(self.do("erase", 1, ("m", "y")))
        self.assertEqual(self.files("s"), {("a", "b"): "new", ("c", "d", "e", "f"): "three", ("x",): "z" * 20})
        self.refused(NoFile, "erase", 1, ("m", "y"))
        self.refused(NoFile, "erase", 1, ("m", "a"))

    def test_refusals_in_their_order(self):
        self.done(("mount", 1, ("m",), "s", True))
        for path in NO_PATHS:
            self.refused(NoPath, "write", 1, path, None)
            self.refused(NoPath, "erase", 1, path)
        for path in [(), ("m",), ("n",), ("a", "m", "x")]:
            self.refused(NoMount, "write", 1, path, None)
            self.refused(NoMount, "erase", 1, path)
        for text in NO_WORDS + [None]:
            self.refused(NoWords, "write", 1, ("m", "a"), text)
        self.refused(Fixed, "write", 1, ("m", "a"), "x")
        self.refused(Fixed, "erase", 1, ("m", "none"))
        self.refused(Fixed, "erase", 1, ("m", "a", "b"))

    def test_a_store_mounted_twice(self):
        self.done(("spawn", 1, ("mounts",)), ("mount", 1, ("m",), "s", False), ("mount", 2, ("n",), "s", True))
        self.do("write", 1, ("m", "a", "b"), "new")
        name, rest, held_fast = self.ground.rooms.spot_of(2, ("n", "a", "b"))
        self.assertEqual((self.ground.stores.text_at(name, rest), held_fast), ("new", True))
        self.refused(Fixed, "write", 2, ("n", "a", "b"), "other")
        self.done(("mount", 2, ("o",), "s", False), ("erase", 2, ("o", "a", "b")))
        self.assertIsNone(self.ground.stores.text_at("s", ("a", "b")))

    def test_what_lies_under_a_mount_comes_back(self):
        self.done(("mount", 1, (), "s", False), ("mount", 1, ("a",), "t", False))
        self.refused(NoFile, "erase", 1, ("a", "b"))
        self.do("unmount", 1, ("a",))
        self.do("erase", 1, ("a", "b"))


class TestBoxes(GroundCase):
    def test_of_shared_and_of_new_rooms(self):
        self.done(("post", 1, "a", "one"), ("spawn", 1, ()), ("spawn", 1, ("boxes",)))
        self.assertIsNone(self.do("post", 2, "b", "2"))
        self.do("post", 3, "a", "other")
        self.assertEqual(self.ground.rooms.boxes_of(1), [("a", "one"), ("b", "2")])
        self.assertEqual(self.ground.rooms.boxes_of(3), [("a", "other")])
        self.assertIsNone(self.do("post", 2, "a", None))
        self.assertIsNone(self.do("post", 2, "none", None))
        self.assertEqual(self.ground.rooms.boxes_of(1), [("b", "2")])
        self.do("post", 1, "b", "z" * 20)
        self.assertEqual(self.ground.rooms.boxes_of(2), [("b", "z" * 20)])

    def test_refusals_in_their_order(self):
        for name in NO_NAMES:
            self.refused(NoName, "post", 1, name, "")
            self.refused(NoName, "post", 1, name, None)
        for text in NO_WORDS:
            self.refused(NoWords, "post", 1, "a", text)


if __name__ == "__main__":
    unittest.main()

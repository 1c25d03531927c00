"""What is to be seen of a yard: [8.1] to [8.3]."""

import inspect
import unittest

from cellyard import watching
from cellyard.errors import NoGroup, NoMount, NoName, NoPath, NoProcess, NoStore
from cellyard.watching import (
    box, boxes, cells, charges, elder_of, ended, files, group_of, groups, holdings, is_frozen, mounts, number_of,
    number_seen, processes, read, rooms, seen_by, share_rooms, stores, turns_of, wants_of)
from cellyard.world import Yard
from helper import FAR_WHOLES, NO_NAMES, NO_PATHS, NO_WHOLES, YardCase, watched

ALL = ["numbers", "mounts", "boxes"]
ARGUMENTS = {
    "processes": 1, "ended": 1, "elder_of": 2, "group_of": 2, "number_of": 2, "number_seen": 3, "seen_by": 2,
    "holdings": 2, "is_frozen": 2, "share_rooms": 3, "rooms": 1, "groups": 1, "charges": 2, "turns_of": 2,
    "wants_of": 2, "stores": 1, "files": 2, "mounts": 2, "read": 3, "box": 3, "boxes": 2, "cells": 1,
}
OF_A_PROCESS = [elder_of, group_of, number_of, seen_by, holdings, is_frozen, mounts, boxes]
OF_TWO = [number_seen, share_rooms]
OF_A_GROUP = [charges, turns_of, wants_of]


class TestInterface(unittest.TestCase):
    def test_functions_and_their_arguments(self):
        for name, many in ARGUMENTS.items():
            parameters = inspect.signature(getattr(watching, name)).parameters.values()
            self.assertEqual(len(parameters), many, name)
            for each in parameters:
                self.assertEqual((each.kind, each.default), (each.POSITIONAL_OR_KEYWORD, each.empty), name)


class TestNewYard(unittest.TestCase):
    def test_all_that_is_told(self):
        yard = Yard()
        self.assertEqual((len(yard), processes(yard), ended(yard)), (1, [1], []))
        self.assertEqual((elder_of(yard, 1), group_of(yard, 1), number_of(yard, 1)), (None, "yard", 1))
        self.assertEqual((holdings(yard, 1), is_frozen(yard, 1)), ((1, 0, 0, (0, 1)), False))
        self.assertEqual((number_seen(yard, 1, 1), seen_by(yard, 1)), (1, [(1, 0)]))
        self.assertEqual((share_rooms(yard, 1, 1), rooms(yard)), (ALL, (1, 1, 1)))
        self.assertEqual(groups(yard), [("yard", None, 1, None, None, None, False)])
        self.assertEqual((charges(yard, "yard"), turns_of(yard, "yard"), wants_of(yard, "yard")), ((0, 1), (0, 1), (0, 1)))
        self.assertEqual((stores(yard), mounts(yard, 1), boxes(yard, 1), cells(yard)), ([], [], [], []))
        self.assertIsNone(box(yard, 1, "a"))


class TestProcesses(YardCase):
    def setUp(self):
        YardCase.setUp(self)
        yard = self.yard
        # 2 and 3 in the outermost room; 4 and 5 in one in it; 6 and 7 in one in that.
        yard.spawn(1)
        yard.spawn(2)
        yard.spawn(2, fresh=("numbers", "mounts"))
        yard.spawn(4)
        yard.spawn(5, fresh=("numbers", "boxes"))
        yard.spawn(6)

    def test_who_goes_and_who_ended(self):
        yard = self.yard
        self.assertEqual((processes(yard), ended(yard), len(yard)), ([1, 2, 3, 4, 5, 6, 7], [], 7))
        yard.finish(7, 5)
        yard.finish(3, 8)
        self.assertEqual((processes(yard), ended(yard)), ([1, 2, 4, 5, 6], [(3, 2, 8), (7, 6, 5)]))
        yard.strike(4, 2)
        self.assertEqual(ended(yard), [(3, 2, 8), (5, 4, 9), (7, 6, 5)])
        self.assertEqual(elder_of(yard, 6), 4)
        yard.wait(6)
        self.assertEqual((processes(yard), ended(yard), len(yard)), ([1, 2, 4, 6], [(3, 2, 8), (5, 4, 9)], 4))

    def test_elders_groups_and_numbers(self):
        yard = self.yard
        self.assertEqual([elder_of(yard, own) for own in processes(yard)], [None, 1, 2, 2, 4, 5, 6])
        self.assertEqual([number_of(yard, own) for own in processes(yard)], [1, 2, 3, 1, 2, 1, 2])
        yard.make_group("g", "yard")
        yard.move(5, "g")
        yard.spawn(5)
        self.assertEqual([group_of(yard, own) for own in [4, 5, 8]], ["yard", "g", "g"])

    def test_numbers_seen(self):
        yard = self.yard
        self.assertEqual([number_seen(yard, 1, own) for own in processes(yard)], [1, 2, 3, 4, 5, 6, 7])
        self.assertEqual([number_seen(yard, 4, own) for own in processes(yard)], [None, None, None, 1, 2, 3, 4])
        self.assertEqual([number_seen(yard, 7, own) for own in processes(yard)], [None] * 5 + [1, 2])

    def test_seen_from_rooms_one_in_another(self):
        yard = self.yard
        self.assertEqual(seen_by(yard, 3), [(1, 0), (2, 1), (3, 2), (4, 2), (5, 4), (6, 5), (7, 6)])
        self.assertEqual(seen_by(yard, 5), [(1, 0), (2, 1), (3, 2), (4, 3)])
        self.assertEqual(seen_by(yard, 6), [(1, 0), (2, 1)])
        yard.finish(5)
        # Who ended is not seen; the young one of 5 has another elder.
        self.assertEqual(seen_by(yard, 4), [(1, 0), (3, 1), (4, 3)])
        self.assertEqual(seen_by(yard, 7), [(1, 0), (2, 1)])

    def test_rooms(self):
        yard = self.yard
        self.assertEqual(rooms(yard), (3, 2, 2))
        self.assertEqual(share_rooms(yard, 1, 3), ALL)
        self.assertEqual(share_rooms(yard, 3, 4), ["boxes"])
        self.assertEqual(share_rooms(yard, 4, 5), ALL)
        self.assertEqual(share_rooms(yard, 5, 6), ["mounts"])
        self.assertEqual(share_rooms(yard, 2, 7), [])
        self.assertEqual(share_rooms(yard, 7, 7), ALL)
        yard.finish(6)
        self.assertEqual(rooms(yard), (3, 2, 1))
        yard.wait(5)
        self.assertEqual(rooms(yard), (2, 2, 1))
        yard.finish(4)
        self.assertEqual(rooms(yard), (2, 1, 1))
        yard.wait(2)
        self.assertEqual(rooms(yard), (1, 1, 1))

    def test_holdings(self):
        yard = self.yard
        yard.set_heft(2, 3)
        yard.grow(2, 7)
        yard.set_want(2, 9)
        yard.set_want(3, 9)
        yard.tick(3)
        self.assertEqual(holdings(yard, 2), (3, 7, 9, (9, 4)))
        self.assertEqual(holdings(yard, 3), (1, 0, 9, (3, 4)))

    def test_frozen(self):
        yard = self.yard
        yard.make_group("a", "yard")
        yard.make_group("b", "a")
        yard.move(2, "a")
        yard.move(3, "b")
        yard.freeze("a")
        self.assertEqual([is_frozen(yard, own) for own in [1, 2, 3]], [False, True, True])
        yard.freeze("b")
        yard.thaw("a")
        self.assertEqual([is_frozen(yard, own) for own in [1, 2, 3]], [False, False, True])
        self.assertEqual(number_seen(yard, 3, 2), 2)

    def test_no_process(self):
        yard = self.yard
        yard.finish(7)
        yard.spawn(1)
        yard.finish(8)
        for own in NO_WHOLES + FAR_WHOLES + [0, -1, 7, 8, 9]:
            for what in OF_A_PROCESS:
                self.assertRaises(NoProcess, what, yard, own)
            for what in OF_TWO:
                self.assertRaises(NoProcess, what, yard, own, 1)
                self.assertRaises(NoProcess, what, yard, 1, own)
                self.assertRaises(NoProcess, what, yard, own, own)
            self.assertRaises(NoProcess, read, yard, own, 5)
            self.assertRaises(NoProcess, box, yard, own, "a")


class TestGroups(YardCase):
    def setUp(self):
        YardCase.setUp(self)
        yard = self.yard
        yard.make_group("b", "yard", heft=2, unit_cap=50, head_cap=9, turn_cap=8)
        yard.make_group("a", "b", turn_cap=5)
        for own, name in [(2, "b"), (3, "a"), (4, "a")]:
            yard.spawn(1)
            yard.move(own, name)
            yard.grow(own, own)
            yard.set_want(own, own)

    def test_told_of_groups(self):
        self.yard.freeze("a")
        self.assertEqual(groups(self.yard), [
            ("a", "b", 1, None, None, 5, True), ("b", "yard", 2, 50, 9, 8, False),
            ("yard", None, 1, None, None, None, False)])

    def test_charges(self):
        yard = self.yard
        self.assertEqual([charges(yard, name) for name in ["yard", "b", "a"]], [(9, 4), (9, 3), (7, 2)])
        yard.spawn(3)
        yard.grow(5, 9)
        yard.finish(5)
        self.assertEqual([charges(yard, name) for name in ["yard", "b", "a"]], [(9, 5), (9, 4), (7, 3)])
        yard.wait(3)
        self.assertEqual(charges(yard, "a"), (7, 2))

    def test_wants(self):
        yard = self.yard
        self.assertEqual([wants_of(yard, name) for name in ["yard", "b", "a"]], [(7, 1), (7, 1), (5, 1)])
        yard.set_want(2, 9)
        yard.set_want(1, 100)
        self.assertEqual([wants_of(yard, name) for name in ["yard", "b", "a"]], [(108, 1), (8, 1), (5, 1)])
        yard.set_caps("yard", turn_cap=99)
        self.assertEqual(wants_of(yard, "yard"), (99, 1))
        yard.freeze("a")
        self.assertEqual([wants_of(yard, name) for name in ["b", "a"]], [(8, 1), (0, 1)])
        yard.freeze("b")
        yard.thaw("a")
        # A group within a frozen one wants nothing.
        self.assertEqual([wants_of(yard, name) for name in ["yard", "b", "a"]], [(99, 1), (0, 1), (0, 1)])
        yard.thaw("b")
        yard.finish(2)
        self.assertEqual(wants_of(yard, "b"), (5, 1))

    def test_turns(self):
        yard = self.yard
        yard.tick(4)
        # b gets 4: 2 and a have 2 each, and in a each has 1.
        self.assertEqual([holdings(yard, own)[3] for own in [2, 3, 4]], [(2, 1), (1, 1), (1, 1)])
        yard.tick(1)
        self.assertEqual([turns_of(yard, name) for name in ["yard", "b", "a"]], [(5, 1), (5, 1), (5, 2)])
        yard.move(3, "yard")
        self.assertEqual([turns_of(yard, name) for name in ["yard", "b", "a"]], [(5, 1), (15, 4), (5, 4)])
        yard.spawn(4)
        yard.set_want(5, 9)
        yard.tick(2)
        yard.finish(5)
        self.assertEqual((ended(yard), turns_of(yard, "yard")), ([(5, 4, 0)], (7, 1)))
        share = turns_of(yard, "a")
        yard.wait(4)
        self.assertNotEqual(turns_of(yard, "a"), share)
        self.assertEqual(turns_of(yard, "a"), holdings(yard, 4)[3])

    def test_no_group(self):
        for name in NO_NAMES + ["none"]:
            for what in OF_A_GROUP:
                self.assertRaises(NoGroup, what, self.yard, name)


class TestStores(YardCase):
    def setUp(self):
        YardCase.setUp(self)
        yard = self.yard
        yard.add_store("t", (((("b",), "two"), (("a", "c"), "one")),))
        yard.add_store("s", ())
        yard.mount(1, ("m",), "t", held_fast=True)
        yard.mount(1, (), "s")

    def test_stores_and_files(self):
        yard = self.yard
        self.assertEqual(stores(yard), ["s", "t"])
        self.assertEqual(files(yard, "t"), [(("a", "c"), "one"), (("b",), "two")])
        self.assertEqual(files(yard, "s"), [])
        yard.write(1, ("m",), "new")
        self.assertEqual(files(yard, "s"), [(("m",), "new")])

    def test_mounts_and_what_is_read(self):
        yard = self.yard
        self.assertEqual(mounts(yard, 1), [((), "s", False), (("m",), "t", True)])
        self.assertEqual(read(yard, 1, ("m", "a", "c")), "one")
        self.assertIsNone(read(yard, 1, ("m", "a")))
        self.assertIsNone(read(yard, 1, ("m",)))
        self.assertIsNone(read(yard, 1, ("b",)))
        yard.unmount(1, ("m",))
        self.assertIsNone(read(yard, 1, ("m", "b")))

    def test_reading_refused(self):
        yard = self.yard
        yard.spawn(1, fresh=("mounts",))
        yard.unmount(2, ())
        for path in NO_PATHS:
            self.assertRaises(NoPath, read, yard, 1, path)
        for path in [(), ("m",), ("a", "b"), ("n", "m", "b")]:
            self.assertRaises(NoMount, read, yard, 2, path)
        self.assertRaises(NoMount, read, yard, 1, ())
        for name in NO_NAMES + ["none", "yard"]:
            self.assertRaises(NoStore, files, yard, name)

    def test_a_frozen_one_is_still_watched(self):
        yard = self.yard
        yard.make_group("g", "yard")
        yard.spawn(1)
        yard.move(2, "g")
        yard.post(2, "a", "t")
        yard.freeze("g")
        self.assertEqual((read(yard, 2, ("m", "b")), box(yard, 2, "a"), mounts(yard, 2)), ("two", "t", mounts(yard, 1)))

    def test_boxes(self):
        yard = self.yard
        yard.spawn(1, fresh=("boxes",))
        yard.post(1, "b", "2")
        yard.post(1, "a", "1")
        self.assertEqual((boxes(yard, 1), boxes(yard, 2)), ([("a", "1"), ("b", "2")], []))
        self.assertEqual([box(yard, own, name) for own in [1, 2] for name in ["a", "c"]], ["1", None, None, None])
        yard.post(1, "a", None)
        self.assertIsNone(box(yard, 1, "a"))

    def test_no_name_ahead_of_no_process(self):
        for name in NO_NAMES:
            for own in [1, 0, 99, None, True, [], "a"]:
                self.assertRaises(NoName, box, self.yard, own, name)

    def test_cells(self):
        yard = self.yard
        yard.open_cell("y", ())
        yard.open_cell("x", ())
        self.assertEqual((cells(yard), stores(yard)), ([("x", 3), ("y", 2)], ["s", "t", "x", "y"]))
        yard.move(3, "yard")
        yard.finish(2)
        self.assertEqual(cells(yard), [("x", 3), ("y", None)])
        yard.restore("z", (1, (None,) * 3, False, (), ((None, 2, 1),), ((),), ((),), (
            (0, ((0, 1),), 0, 0, 1, 0, 0, (0, 1), False, 0),)))
        yard.close_cell("y")
        self.assertEqual(cells(yard), [("x", 3), ("z", 4)])


class TestToldLists(YardCase):
    def test_changing_them_changes_nothing(self):
        yard = self.yard
        yard.open_cell("x", (((("a",), "t"),),))
        yard.spawn(1)
        yard.spawn(3)
        yard.spawn(3)
        yard.finish(5)
        yard.post(1, "b", "t")
        yard.mount(1, (), "x")
        before = watched(yard)
        tellings = [
            lambda: processes(yard), lambda: ended(yard), lambda: seen_by(yard, 1), lambda: share_rooms(yard, 1, 3),
            lambda: groups(yard), lambda: stores(yard), lambda: files(yard, "x"), lambda: mounts(yard, 1),
            lambda: boxes(yard, 1), lambda: cells(yard)]
        for tell in tellings:
            told = tell()
            kept = list(told)
            self.assertTrue(kept)
            told.append("more")
            del told[0]
            told.reverse()
            self.assertEqual(tell(), kept)
            self.assertIsNot(tell(), tell())
        self.assertEqual(watched(yard), before)


if __name__ == "__main__":
    unittest.main()

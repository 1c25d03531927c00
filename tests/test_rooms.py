"""Rooms: [4.1], [4.3], [4.6], [4.7], [6.2], [6.3] as far as they speak of rooms, and [0.2] (c) and (e)."""

import random
import unittest

from cellyard.errors import NoKinds, NoMount, NoName, NoNumber, NoPath, NoWords, Taken
from cellyard.rooms import Rooms, check_kinds
from helper import FAR_WHOLES, NO_NAMES, NO_PATHS, NO_TEXTS, NO_WHOLES, NO_WORDS, nested, refuses

ALL = ("numbers", "mounts", "boxes")


def begun():
    """Rooms with the first process, 1, in them."""
    rooms = Rooms()
    rooms.settle_first(1)
    return rooms


def settled(*comers):
    """Rooms with 1 and these (elder, fresh), which are 2 and so on."""
    rooms = begun()
    for at, (elder, fresh) in enumerate(comers):
        rooms.settle(at + 2, elder, fresh)
    return rooms


def nest():
    """1 and 2 in the outermost room; 3 and 4 in one in it; 5 and 6 in one in that; 7 in another in the outermost."""
    return settled((1, ()), (1, ("numbers",)), (3, ()), (4, ("numbers",)), (5, ()), (2, ("numbers",)))


def seen(rooms, owns):
    """What each of the processes has and sees in its rooms."""
    return [
        (rooms.numbers_of(own), rooms.seen_from(own), rooms.mounts_of(own), rooms.boxes_of(own)) for own in owns
    ] + [rooms.many_rooms()]


class TestKinds(unittest.TestCase):
    def test_kinds(self):
        taken = [(), ("numbers",), ("mounts",), ("boxes",), ("boxes", "numbers"), ALL, ALL[::-1]]
        for kinds in taken:
            self.assertIsNone(check_kinds(kinds))

    def test_what_are_none(self):
        wrong = [
            "", "numbers", "boxes", ["numbers"], list(ALL), ("numbers", "numbers"), ALL + ("boxes",), ("number",),
            ("",), ("Numbers",), ("numbers", 1), (1,), (True,), (None,), (ALL,), (["numbers"],), (("numbers",),),
            ("rooms",), nested(6, "boxes"), nested(7, "boxes"), nested(3000, "boxes"), {}, {"boxes": 1}, b"boxes",
            ("numbersmounts",), ("numbers", "mounts", "boxes", ""),
        ]
        for kinds in wrong + [thing for thing in NO_TEXTS if thing != ()]:
            refuses(self, NoKinds, check_kinds, kinds)


class TestNumbers(unittest.TestCase):
    def test_the_first_process(self):
        rooms = begun()
        self.assertEqual(rooms.numbers_of(1), [1])
        self.assertEqual(rooms.number_of(1), 1)
        self.assertEqual(rooms.seen_from(1), [(1, 1)])

    def test_in_the_same_room(self):
        rooms = settled((1, ()), (2, ()), (1, ("mounts", "boxes")))
        self.assertEqual([rooms.numbers_of(own) for own in [1, 2, 3, 4]], [[1], [2], [3], [4]])
        self.assertEqual(rooms.seen_from(4), [(1, 1), (2, 2), (3, 3), (4, 4)])

    def test_in_rooms_that_lie_one_in_another(self):
        rooms = nest()
        told = [rooms.numbers_of(own) for own in range(1, 8)]
        self.assertEqual(told, [[1], [2], [1, 3], [2, 4], [1, 3, 5], [2, 4, 6], [1, 7]])
        self.assertEqual([rooms.number_of(own) for own in range(1, 8)], [1, 2, 1, 2, 1, 2, 1])

    def test_each_sees_just_those_with_a_number_in_its_room(self):
        rooms = nest()
        self.assertEqual(rooms.seen_from(1), [(own, own) for own in range(1, 8)])
        self.assertEqual(rooms.seen_from(3), [(1, 3), (2, 4), (3, 5), (4, 6)])
        self.assertEqual(rooms.seen_from(4), rooms.seen_from(3))
        self.assertEqual(rooms.seen_from(6), [(1, 5), (2, 6)])
        self.assertEqual(rooms.seen_from(7), [(1, 7)])

    def test_number_of_another_one(self):
        rooms = nest()
        self.assertEqual([rooms.number_seen(1, other) for other in range(1, 8)], [1, 2, 3, 4, 5, 6, 7])
        self.assertEqual([rooms.number_seen(4, other) for other in range(1, 8)], [None, None, 1, 2, 3, 4, None])
        self.assertEqual([rooms.number_seen(5, other) for other in range(1, 8)], [None] * 4 + [1, 2, None])
        self.assertEqual([rooms.number_seen(7, other) for other in range(1, 8)], [None] * 6 + [1])

    def test_who_has_a_number(self):
        rooms = nest()
        self.assertEqual([rooms.own_of(2, number) for number in range(0, 9)], [None, 1, 2, 3, 4, 5, 6, 7, None])
        self.assertEqual([rooms.own_of(4, number) for number in range(0, 6)], [None, 3, 4, 5, 6, None])
        self.assertEqual([rooms.own_of(6, number) for number in range(0, 4)], [None, 5, 6, None])

    def test_nobody_has_what_is_no_number(self):
        rooms = nest()
        for thing in NO_WHOLES + FAR_WHOLES + [-1]:
            self.assertIsNone(rooms.own_of(2, thing))

    def test_numbers_come_once(self):
        rooms = nest()
        rooms.end(6)
        rooms.leave(6)
        rooms.settle(8, 5, ())
        self.assertEqual(rooms.numbers_of(8), [3, 5, 8])
        self.assertEqual([rooms.own_of(5, number) for number in [1, 2, 3]], [5, None, 8])
        self.assertEqual([rooms.own_of(3, number) for number in [3, 4, 5]], [5, None, 8])
        self.assertEqual([rooms.own_of(1, number) for number in [5, 6, 7, 8]], [5, None, 7, 8])

    def test_who_ended_keeps_its_numbers_till_it_is_no_more(self):
        rooms = nest()
        rooms.end(5)
        self.assertEqual(rooms.numbers_of(5), [1, 3, 5])
        self.assertEqual(rooms.own_of(6, 1), 5)
        self.assertEqual(rooms.number_seen(1, 5), 5)
        rooms.leave(5)
        self.assertIsNone(rooms.own_of(6, 1))
        self.assertIsNone(rooms.number_seen(4, 5))
        self.assertIsNone(rooms.number_seen(1, 5))
        self.assertEqual(rooms.numbers_of(6), [2, 4, 6])

    def test_own_numbers_need_not_be_next_to_one_another(self):
        rooms = begun()
        rooms.settle(50, 1, ("numbers",))
        rooms.settle(7, 50, ())
        self.assertEqual(rooms.bound_to(1), [7, 50])
        self.assertEqual([rooms.numbers_of(own) for own in [50, 7]], [[1, 2], [2, 3]])
        self.assertEqual(rooms.seen_from(7), [(1, 50), (2, 7)])

    def test_told_lists_are_new_ones(self):
        rooms = nest()
        for ask in [rooms.numbers_of, rooms.seen_from, rooms.bound_to]:
            told = ask(5)
            before = list(told)
            told.append(None)
            self.assertEqual(ask(5), before)

    def test_deep_rooms(self):
        rooms = begun()
        for own in range(2, 1500):
            rooms.settle(own, own - 1, ("numbers",))
        self.assertEqual(rooms.numbers_of(1499), list(range(1, 1500)))
        self.assertEqual(rooms.bound_to(1400), list(range(1401, 1500)))


class TestEnds(unittest.TestCase):
    def test_who_gets_the_young_ones(self):
        rooms = nest()
        told = [rooms.next_elder(own) for own in range(1, 8)]
        self.assertEqual(told, [None, 1, 1, 3, 3, 5, 1])

    def test_who_ends_with_the_first_of_a_room(self):
        rooms = nest()
        self.assertEqual(rooms.bound_to(3), [4, 5, 6])
        self.assertEqual(rooms.bound_to(5), [6])
        self.assertEqual(rooms.bound_to(7), [])
        self.assertEqual(rooms.bound_to(1), [2, 3, 4, 5, 6, 7])

    def test_nobody_ends_with_another_one(self):
        rooms = nest()
        for own in [2, 4, 6]:
            self.assertEqual(rooms.bound_to(own), [])

    def test_who_is_no_more_ends_no_more(self):
        rooms = nest()
        rooms.leave(6)
        self.assertEqual(rooms.bound_to(3), [4, 5])
        self.assertEqual(rooms.bound_to(5), [])

    def test_who_ended_and_is_not_waited_for_goes_with_the_first(self):
        rooms = nest()
        rooms.end(6)
        self.assertEqual(rooms.bound_to(5), [6])


class TestRoomsThere(unittest.TestCase):
    def test_at_first(self):
        self.assertEqual(begun().many_rooms(), (1, 1, 1))

    def test_new_ones_of_each_kind(self):
        for fresh, many in [
            ((), (1, 1, 1)), (("numbers",), (2, 1, 1)), (("mounts",), (1, 2, 1)), (("boxes",), (1, 1, 2)),
            (("boxes", "numbers"), (2, 1, 2)), (ALL, (2, 2, 2)), (ALL[::-1], (2, 2, 2)),
        ]:
            self.assertEqual(settled((1, fresh)).many_rooms(), many)
            self.assertEqual(settled((1, fresh), (2, ())).many_rooms(), many)
        self.assertEqual(nest().many_rooms(), (4, 1, 1))
        self.assertEqual(settled((1, ALL), (2, ALL), (1, ALL)).many_rooms(), (4, 4, 4))

    def test_told_is_a_tuple(self):
        self.assertIs(begun().many_rooms().__class__, tuple)

    def test_rooms_of_mounts_and_boxes_are_no_more_with_the_last_that_goes(self):
        rooms = settled((1, ALL), (2, ()))
        rooms.end(2)
        self.assertEqual(rooms.many_rooms(), (2, 2, 2))
        rooms.end(3)
        self.assertEqual(rooms.many_rooms(), (2, 1, 1))

    def test_rooms_of_numbers_are_no_more_with_the_last_that_is_there(self):
        rooms = settled((1, ALL), (2, ()))
        rooms.end(3)
        rooms.leave(3)
        rooms.end(2)
        self.assertEqual(rooms.many_rooms(), (2, 1, 1))
        rooms.leave(2)
        self.assertEqual(rooms.many_rooms(), (1, 1, 1))

    def test_rooms_within(self):
        rooms = nest()
        for own, many in [(6, 4), (5, 3), (4, 3), (3, 2), (7, 1), (2, 1)]:
            rooms.end(own)
            rooms.leave(own)
            self.assertEqual(rooms.many_rooms(), (many, 1, 1))

    def test_the_first_of_each_kind_stays(self):
        rooms = Rooms()
        self.assertEqual(rooms.many_rooms(), (1, 1, 1))
        rooms.settle_first(1)
        rooms.settle(2, 1, ALL)
        rooms.end(1)
        self.assertEqual(rooms.many_rooms(), (2, 2, 2))
        rooms.leave(1)
        self.assertEqual(rooms.many_rooms(), (2, 2, 2))

    def test_the_kinds_that_are_shared(self):
        for at in range(8):
            fresh = tuple(kind for place, kind in enumerate(ALL) if at >> place & 1)
            rooms = settled((1, fresh), (2, ()), (1, ()))
            shared = [kind for kind in ALL if kind not in fresh]
            self.assertEqual(rooms.shared_kinds(1, 2), shared)
            self.assertEqual(rooms.shared_kinds(3, 4), shared)
            self.assertEqual(rooms.shared_kinds(2, 3), list(ALL))
            self.assertEqual(rooms.shared_kinds(1, 4), list(ALL))
            self.assertEqual(rooms.shared_kinds(2, 2), list(ALL))

    def test_two_new_rooms_are_not_the_same(self):
        rooms = settled((1, ALL), (1, ALL))
        self.assertEqual(rooms.shared_kinds(2, 3), [])
        rooms.shared_kinds(1, 1).clear()
        self.assertEqual(rooms.shared_kinds(1, 1), list(ALL))


class TestMounts(unittest.TestCase):
    def test_at_first_nothing_is_mounted(self):
        rooms = begun()
        self.assertEqual(rooms.mounts_of(1), [])
        self.assertIs(rooms.is_mounted("a"), False)

    def test_mounted(self):
        rooms = begun()
        self.assertIsNone(rooms.mount(1, ("b",), "one"))
        rooms.mount(1, ("a", "b"), "two", held_fast=True)
        rooms.mount(1, (), "one", held_fast=False)
        rooms.mount(1, ("a",) * 4, "three")
        self.assertEqual(rooms.mounts_of(1), [
            ((), "one", False), (("a",) * 4, "three", False), (("a", "b"), "two", True), (("b",), "one", False)])

    def test_unmounted(self):
        rooms = begun()
        for path in [(), ("a",), ("a", "b")]:
            rooms.mount(1, path, "one")
        self.assertIsNone(rooms.unmount(1, ("a",)))
        self.assertEqual(rooms.mounts_of(1), [((), "one", False), (("a", "b"), "one", False)])
        rooms.unmount(1, ())
        rooms.mount(1, ("a",), "two", held_fast=True)
        self.assertEqual(rooms.mounts_of(1), [(("a",), "two", True), (("a", "b"), "one", False)])

    def test_shared_with_all_in_the_room(self):
        rooms = settled((1, ()), (1, ("numbers", "boxes")))
        rooms.mount(2, ("a",), "one")
        for own in [1, 2, 3]:
            self.assertEqual(rooms.mounts_of(own), [(("a",), "one", False)])
        rooms.unmount(3, ("a",))
        for own in [1, 2, 3]:
            self.assertEqual(rooms.mounts_of(own), [])

    def test_a_new_room_begins_with_the_same_mounts(self):
        rooms = begun()
        rooms.mount(1, (), "one")
        rooms.mount(1, ("a",), "two", held_fast=True)
        rooms.settle(2, 1, ("mounts",))
        self.assertEqual(rooms.mounts_of(2), [((), "one", False), (("a",), "two", True)])

    def test_and_then_goes_its_own_way(self):
        rooms = begun()
        rooms.mount(1, (), "one")
        rooms.settle(2, 1, ("mounts",))
        rooms.mount(1, ("a",), "two")
        self.assertEqual(rooms.mounts_of(2), [((), "one", False)])
        rooms.unmount(2, ())
        rooms.mount(2, ("b",), "three")
        self.assertEqual(rooms.mounts_of(1), [((), "one", False), (("a",), "two", False)])
        self.assertEqual(rooms.mounts_of(2), [(("b",), "three", False)])
        rooms.settle(3, 2, ("mounts",))
        self.assertEqual(rooms.mounts_of(3), [(("b",), "three", False)])

    def test_whether_a_store_is_mounted_in_some_room(self):
        rooms = settled((1, ("mounts",)), (2, ()))
        rooms.mount(2, ("a",), "one")
        rooms.mount(2, ("b",), "one")
        self.assertIs(rooms.is_mounted("one"), True)
        self.assertIs(rooms.is_mounted("two"), False)
        rooms.unmount(3, ("a",))
        self.assertIs(rooms.is_mounted("one"), True)
        rooms.end(2)
        self.assertIs(rooms.is_mounted("one"), True)
        rooms.end(3)
        self.assertIs(rooms.is_mounted("one"), False)

    def test_told_lists_are_new_ones(self):
        rooms = begun()
        rooms.mount(1, (), "one")
        rooms.mounts_of(1).clear()
        self.assertEqual(rooms.mounts_of(1), [((), "one", False)])

    def refused(self, rooms, error, do, *things, **named):
        before = rooms.mounts_of(1)
        refuses(self, error, do, *things, **named)
        self.assertEqual(rooms.mounts_of(1), before)

    def test_what_is_no_path(self):
        rooms = begun()
        rooms.mount(1, ("a",), "one")
        for path in NO_PATHS:
            self.refused(rooms, NoPath, rooms.mount, 1, path, "one")
            self.refused(rooms, NoPath, rooms.mount, 1, path, "one", held_fast=1)
            self.refused(rooms, NoPath, rooms.unmount, 1, path)
            self.refused(rooms, NoPath, rooms.spot_of, 1, path)

    def test_held_fast_is_a_truth(self):
        rooms = begun()
        rooms.mount(1, ("a",), "one")
        for thing in [0, 1, None, "", "True", [], [True], (), (True,), nested(6), nested(7), 1.0]:
            self.refused(rooms, NoNumber, rooms.mount, 1, ("b",), "one", held_fast=thing)
            self.refused(rooms, NoNumber, rooms.mount, 1, ("a",), "one", held_fast=thing)

    def test_taken(self):
        rooms = settled((1, ()), (1, ("mounts",)))
        for path in [(), ("a",), ("a", "b", "c", "d")]:
            rooms.mount(1, path, "one", held_fast=True)
            for name in ["one", "two"]:
                self.refused(rooms, Taken, rooms.mount, 1, path, name)
                self.refused(rooms, Taken, rooms.mount, 2, path, name, held_fast=True)
            rooms.mount(3, path, "one")

    def test_no_mount(self):
        rooms = settled((1, ("mounts",)))
        rooms.mount(1, ("a", "b"), "one")
        for path in [(), ("a",), ("b",), ("a", "b", "c"), ("b", "a")]:
            self.refused(rooms, NoMount, rooms.unmount, 1, path)
        self.refused(rooms, NoMount, rooms.unmount, 2, ("a", "b"))
        rooms.unmount(1, ("a", "b"))
        self.refused(rooms, NoMount, rooms.unmount, 1, ("a", "b"))


class TestLongestMount(unittest.TestCase):
    def mounted(self):
        rooms = begun()
        for path, name in [((), "root"), (("a",), "one"), (("a", "b", "c"), "three"), (("x", "y"), "two")]:
            rooms.mount(1, path, name, held_fast=len(path) == 1)
        return rooms

    def test_the_longest_that_begins_it(self):
        rooms = self.mounted()
        for path, spot in [
            (("b",), ("root", ("b",), False)),
            (("b", "a"), ("root", ("b", "a"), False)),
            (("a", "x"), ("one", ("x",), True)),
            (("a", "b"), ("one", ("b",), True)),
            (("a", "b", "x"), ("one", ("b", "x"), True)),
            (("a", "c", "c", "d"), ("one", ("c", "c", "d"), True)),
            (("a", "b", "c", "d"), ("three", ("d",), False)),
            (("x", "y", "z"), ("two", ("z",), False)),
            (("x", "z", "y"), ("root", ("x", "z", "y"), False)),
            (("ab", "b"), ("root", ("ab", "b"), False)),
        ]:
            self.assertEqual(rooms.spot_of(1, path), spot)

    def test_a_mounted_path_is_not_shorter_than_itself(self):
        rooms = self.mounted()
        self.assertEqual(rooms.spot_of(1, ("a",)), ("root", ("a",), False))
        self.assertEqual(rooms.spot_of(1, ("a", "b", "c")), ("one", ("b", "c"), True))
        self.assertEqual(rooms.spot_of(1, ("x", "y")), ("root", ("x", "y"), False))

    def test_the_empty_path_lies_nowhere(self):
        refuses(self, NoMount, self.mounted().spot_of, 1, ())

    def test_where_nothing_begins_it(self):
        rooms = begun()
        refuses(self, NoMount, rooms.spot_of, 1, ("a",))
        rooms.mount(1, ("a",), "one")
        rooms.mount(1, ("b", "c"), "two")
        for path in [(), ("a",), ("b",), ("c",), ("b", "c"), ("b", "d", "c"), ("c", "a"), ("aa", "a")]:
            refuses(self, NoMount, rooms.spot_of, 1, path)
        self.assertEqual(rooms.spot_of(1, ("a", "z")), ("one", ("z",), False))

    def test_each_room_by_its_own_mounts(self):
        rooms = self.mounted()
        rooms.settle(2, 1, ("mounts",))
        rooms.unmount(2, ("a",))
        self.assertEqual(rooms.spot_of(1, ("a", "b")), ("one", ("b",), True))
        self.assertEqual(rooms.spot_of(2, ("a", "b")), ("root", ("a", "b"), False))

    def test_many_against_all_mounts_one_by_one(self):
        source = random.Random(3)
        paths = [tuple(source.choice("ab") for at in range(many)) for many in [0, 1, 2, 3, 4] for again in range(9)]
        for run in range(300):
            rooms = begun()
            for at, path in enumerate(sorted(set(source.sample(paths, 6)))):
                rooms.mount(1, path, "abcdef"[at])
            for path in paths:
                fit = [row for row in rooms.mounts_of(1) if len(row[0]) < len(path) and path[:len(row[0])] == row[0]]
                if fit:
                    longest, name, held_fast = max(fit, key=lambda row: len(row[0]))
                    self.assertEqual(rooms.spot_of(1, path), (name, path[len(longest):], held_fast))
                else:
                    refuses(self, NoMount, rooms.spot_of, 1, path)


class TestBoxes(unittest.TestCase):
    def test_posted(self):
        rooms = begun()
        self.assertEqual(rooms.boxes_of(1), [])
        self.assertIsNone(rooms.post(1, "b", "one"))
        rooms.post(1, "abcdef", "a1" * 10)
        rooms.post(1, "ab", "0")
        self.assertEqual(rooms.boxes_of(1), [("ab", "0"), ("abcdef", "a1" * 10), ("b", "one")])
        self.assertEqual([rooms.box_of(1, name) for name in ["b", "ab", "c"]], ["one", "0", None])

    def test_posted_again(self):
        rooms = begun()
        rooms.post(1, "a", "one")
        rooms.post(1, "a", "two")
        self.assertEqual(rooms.boxes_of(1), [("a", "two")])

    def test_none_takes_it_away(self):
        rooms = begun()
        rooms.post(1, "a", "one")
        rooms.post(1, "b", "one")
        self.assertIsNone(rooms.post(1, "a", None))
        self.assertEqual(rooms.boxes_of(1), [("b", "one")])
        self.assertIsNone(rooms.box_of(1, "a"))
        self.assertIsNone(rooms.post(1, "a", None))
        self.assertEqual(rooms.boxes_of(1), [("b", "one")])

    def test_shared_with_all_in_the_room(self):
        rooms = settled((1, ()), (1, ("numbers", "mounts")))
        rooms.post(2, "a", "one")
        for own in [1, 2, 3]:
            self.assertEqual(rooms.box_of(own, "a"), "one")
        rooms.post(3, "a", None)
        for own in [1, 2, 3]:
            self.assertEqual(rooms.boxes_of(own), [])

    def test_a_new_room_begins_without_any(self):
        rooms = begun()
        rooms.post(1, "a", "one")
        rooms.settle(2, 1, ("boxes",))
        self.assertEqual(rooms.boxes_of(2), [])
        rooms.post(2, "b", "two")
        rooms.post(1, "c", "three")
        self.assertEqual(rooms.boxes_of(1), [("a", "one"), ("c", "three")])
        self.assertEqual(rooms.boxes_of(2), [("b", "two")])

    def test_no_name_then_no_words(self):
        rooms = begun()
        rooms.post(1, "a", "one")
        for name in NO_NAMES:
            refuses(self, NoName, rooms.post, 1, name, "one")
            refuses(self, NoName, rooms.post, 1, name, "")
            refuses(self, NoName, rooms.post, 1, name, None)
            refuses(self, NoName, rooms.box_of, 1, name)
        for text in NO_WORDS:
            refuses(self, NoWords, rooms.post, 1, "a", text)
        self.assertEqual(rooms.boxes_of(1), [("a", "one")])

    def test_told_lists_are_new_ones(self):
        rooms = begun()
        rooms.post(1, "a", "one")
        rooms.boxes_of(1).clear()
        self.assertEqual(rooms.boxes_of(1), [("a", "one")])


class TestHistories(unittest.TestCase):
    """[0.2] (c) and (e) at every moment of many histories, with rooms kept naively beside."""

    def begin(self, seed):
        self.source = random.Random(seed)
        self.rooms = begun()
        # Of each process the ways of its three rooms: keys, and of numbers those of the rooms around, too.
        self.there = {1: [(0,), 0, 0]}
        self.gone = {}
        self.come = 1
        self.keys = 0
        self.given = {0: [1]}

    def spawn(self):
        elder = self.source.choice(sorted(self.there))
        fresh = tuple(self.source.sample(ALL, self.source.choice([0, 0, 1, 2, 3])))
        self.come += 1
        self.rooms.settle(self.come, elder, fresh)
        ways, mounts, boxes = self.there[elder]
        self.keys += 1
        ways = (self.keys,) + ways if "numbers" in fresh else ways
        self.there[self.come] = [
            ways, self.keys if "mounts" in fresh else mounts, self.keys if "boxes" in fresh else boxes]
        for key in ways:
            self.given.setdefault(key, []).append(self.come)

    def stop(self):
        own = self.source.choice(sorted(self.there))
        if own == 1:
            return
        # Whoever else is in its room, or in one in that, goes with the first of a room.
        ways = self.there[own][0]
        bound = []
        if self.given[ways[0]][0] == own:
            both = {**self.there, **self.gone}
            bound = sorted(other for other in both if other != own and ways[0] in both[other][0])
        self.assertEqual(self.rooms.bound_to(own), bound)
        for other in bound:
            self.there.pop(other, None)
            self.gone.pop(other, None)
            self.rooms.leave(other)
        self.rooms.end(own)
        self.gone[own] = self.there.pop(own)

    def wait(self):
        if self.gone:
            own = self.source.choice(sorted(self.gone))
            self.rooms.leave(own)
            del self.gone[own]

    def touch(self):
        """One turns something in its rooms: whoever shares no room with it has what it had."""
        own = self.source.choice(sorted(self.there))
        path, name = (self.source.choice("ab"),), self.source.choice("cd")
        before = {other: self.rooms.mounts_of(other) for other in self.there}
        boxes = {other: self.rooms.boxes_of(other) for other in self.there}
        try:
            self.rooms.mount(own, path, name)
        except Taken:
            self.rooms.unmount(own, path)
        self.rooms.post(own, name, self.source.choice([None, "x", "y"]))
        for other in self.there:
            same_mounts = self.there[other][1] == self.there[own][1]
            same_boxes = self.there[other][2] == self.there[own][2]
            now = self.rooms.mounts_of(own) if same_mounts else before[other]
            self.assertEqual(self.rooms.mounts_of(other), now)
            now = self.rooms.boxes_of(own) if same_boxes else boxes[other]
            self.assertEqual(self.rooms.boxes_of(other), now)

    def agree(self):
        both = {**self.there, **self.gone}
        for own, (ways, mounts, boxes) in both.items():
            self.assertEqual(self.rooms.numbers_of(own), [self.given[key].index(own) + 1 for key in ways])
            sees = [(self.given[ways[0]].index(other) + 1, other) for other in both if ways[0] in both[other][0]]
            self.assertEqual(self.rooms.seen_from(own), sorted(sees))
            for other in both:
                number = dict((two, one) for one, two in sees).get(other)
                self.assertEqual(self.rooms.number_seen(own, other), number)
        self.assertEqual(self.rooms.many_rooms(), (
            len({row[0] for row in both.values()}), len({row[1] for row in self.there.values()}),
            len({row[2] for row in self.there.values()})))

    def test_many_histories(self):
        for seed in range(40):
            self.begin(seed)
            for at in range(60):
                self.source.choice([self.spawn, self.spawn, self.spawn, self.touch, self.touch, self.stop, self.wait])()
                self.agree()

    def test_what_one_that_shares_nothing_does_is_not_seen(self):
        rooms = settled((1, ()), (1, ("numbers", "mounts", "boxes")))
        before = seen(rooms, [3])[0]
        for own in [1, 2]:
            rooms.mount(own, ("a", "b")[:own], "one")
            rooms.post(own, "box", "one")
        self.assertEqual(seen(rooms, [3])[0], before)


if __name__ == "__main__":
    unittest.main()

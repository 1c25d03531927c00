"""Processes of a yard: [3.1] to [3.3] as far as they meet processes, [4.1] to [4.7], and [0.2] (c), (d) and (f)."""

import unittest

from cellyard.errors import (
    Capped, Frozen, Guarded, Held, Itself, NoChild, NoGroup, NoKinds, NoNumber, NoProcess, NoSuch, NotYet, Over)
from cellyard.yards import Ground
from helper import FAR_WHOLES, NO_NAMES, NO_WHOLES, GroundCase, nested, seen

ALL = ("numbers", "mounts", "boxes")
NO_OWNS = NO_WHOLES + FAR_WHOLES + [0, -1, 2, 99]
# Each deed of a process itself, all its other parts such as are refused.
ACTS = [
    ("spawn", "numbers"), ("finish", -1), ("strike", 0), ("wait",), ("want", -1), ("grow", 0), ("shrink", 0),
    ("mount", 5, 5, 5), ("unmount", 5), ("write", 5, 5), ("erase", 5), ("post", 5, 5),
]
# And those that are done to a process.
DONE_TO = [("move", 5), ("heft", 0)]


class TestNewYard(GroundCase):
    def test_what_is_there(self):
        self.assertEqual(self.ground.groups.rows(), [("yard", None, 1, None, None, None, False)])
        self.assertEqual(self.charges("yard"), (0, 1))
        self.assertEqual(self.owns(), [1])
        self.assertEqual(self.elders(), {1: None})
        self.assertEqual(self.ground.rooms.many_rooms(), (1, 1, 1))
        self.assertEqual(self.ground.rooms.numbers_of(1), [1])
        first = self.ground.processes.going(1)
        self.assertEqual((first.heft, first.units, first.want, first.got, first.group), (1, 0, 0, (0, 1), "yard"))

    def test_yards_share_nothing(self):
        other = Ground()
        self.done(("spawn", 1, ALL), ("store", "s", ()), ("mount", 1, (), "s", False), ("post", 1, "b", "t"))
        self.assertEqual(len(other.processes.by_own), 1)
        self.assertEqual((other.rooms.mounts_of(1), other.rooms.boxes_of(1)), ([], []))


class TestOwn(GroundCase):
    def test_no_process_ahead_of_all_else(self):
        self.done(("group", "g", "yard", 1, None, None, None), ("spawn", 1, ()), ("spawn", 2, ()), ("finish", 3, 4))
        for own in [thing for thing in NO_OWNS if thing != 2] + [3, 4]:
            for word, *parts in ACTS + DONE_TO:
                self.refused(NoProcess, word, own, *parts)
        self.do("wait", 2)
        self.refused(NoProcess, "wait", 3)

    def test_frozen_ahead_of_all_but_that(self):
        self.done(("group", "g", "yard", 1, None, None, None), ("spawn", 1, ()), ("move", 2, "g"), ("freeze", "g"))
        for word, *parts in ACTS:
            self.assertEqual(self.refused(Frozen, word, 2, *parts).group, "g")
        for parts in [("move", 2, "none")]:
            self.refused(NoGroup, *parts)
        self.refused(NoNumber, "heft", 2, 0)

    def test_own_numbers_come_once(self):
        self.assertEqual(self.done(("spawn", 1, ()), ("spawn", 2, ALL), ("spawn", 1, ())), [2, 3, 4])
        self.done(("finish", 4, 0))
        self.assertEqual(self.do("spawn", 1, ()), 5)
        self.refused(NoKinds, "spawn", 1, ("room",))
        self.assertEqual(self.do("spawn", 1, ()), 6)


class TestSpawn(GroundCase):
    def test_what_a_young_one_is(self):
        self.done(("group", "g", "yard", 1, None, None, None), ("spawn", 1, ()), ("move", 2, "g"))
        self.done(("heft", 2, 7), ("want", 2, 5), ("grow", 2, 3), ("tick", 5))
        self.assertEqual(self.do("spawn", 2, ()), 3)
        young = self.ground.processes.going(3)
        self.assertEqual((young.elder, young.group, young.heft, young.units, young.want, young.got),
                         (2, "g", 1, 0, 0, (0, 1)))
        self.assertEqual(self.ground.rooms.shared_kinds(2, 3), list(ALL))
        self.assertEqual(self.charges("g"), (3, 2))

    def test_new_rooms(self):
        self.done(("store", "s", ()), ("mount", 1, ("a",), "s", True), ("post", 1, "b", "t"))
        for at, fresh in enumerate([("numbers",), ("mounts",), ("boxes",), ("boxes", "numbers"), ALL[::-1]]):
            self.assertEqual(self.do("spawn", 1, fresh), at + 2)
            shared = [kind for kind in ALL if kind not in fresh]
            self.assertEqual(self.ground.rooms.shared_kinds(1, at + 2), shared)
            self.assertEqual(self.ground.rooms.mounts_of(at + 2), [(("a",), "s", True)])
            boxes = [] if "boxes" in fresh else [("b", "t")]
            self.assertEqual(self.ground.rooms.boxes_of(at + 2), boxes)
        self.assertEqual(self.ground.rooms.many_rooms(), (4, 3, 4))

    def test_rooms_of_numbers_three_deep(self):
        self.done(("spawn", 1, ("numbers",)), ("spawn", 2, ("numbers",)), ("spawn", 3, ("numbers",)))
        self.done(("spawn", 4, ()), ("spawn", 2, ()), ("spawn", 3, ()), ("spawn", 1, ()))
        told = [self.ground.rooms.numbers_of(own) for own in range(1, 9)]
        self.assertEqual(told, [[1], [1, 2], [1, 2, 3], [1, 2, 3, 4], [2, 3, 4, 5], [5, 6], [4, 6, 7], [8]])
        self.assertEqual(self.ground.rooms.number_seen(3, 5), 3)
        self.assertEqual(self.ground.rooms.number_seen(5, 3), None)
        self.assertEqual([own for number, own in self.ground.rooms.seen_from(2)], [2, 3, 4, 5, 6, 7])
        self.assertEqual([own for number, own in self.ground.rooms.seen_from(7)], [3, 4, 5, 7])

    def test_no_kinds(self):
        self.do("caps", "yard", None, 1, None)
        for fresh in ["", "numbers", [], ["boxes"], ("box",), ("boxes", "boxes"), (1,), None, True, 5, (ALL,),
                      ALL + ("mounts",), ([],), nested(6, "boxes"), nested(3000, "boxes")]:
            self.refused(NoKinds, "spawn", 1, fresh)
        self.refused(Capped, "spawn", 1, ())

    def test_capped_by_the_innermost(self):
        self.done(("group", "a", "yard", 1, None, 3, None), ("group", "b", "a", 1, None, 2, None))
        self.done(("spawn", 1, ()), ("move", 2, "b"), ("spawn", 2, ()))
        self.assertEqual(self.refused(Capped, "spawn", 2, ()).group, "b")
        self.done(("caps", "yard", None, 3, None))
        self.assertEqual(self.refused(Capped, "spawn", 2, ()).group, "b")
        self.assertEqual(self.refused(Capped, "spawn", 1, ()).group, "yard")
        self.done(("caps", "b", None, None, None), ("caps", "yard", None, 4, None))
        self.assertEqual(self.do("spawn", 2, ()), 4)
        self.assertEqual(self.refused(Capped, "spawn", 2, ()).group, "a")
        # One that ended counts till it is waited for.
        self.do("finish", 4, 0)
        self.assertEqual(self.refused(Capped, "spawn", 2, ()).group, "a")
        self.done(("wait", 2), ("spawn", 2, ()))

    def test_where_no_limit_is_passed(self):
        self.do("caps", "yard", None, 3, None)
        self.done(("spawn", 1, ()), ("spawn", 1, ()))
        self.assertEqual(self.refused(Capped, "spawn", 1, ()).group, "yard")


class TestMove(GroundCase):
    def setUp(self):
        GroundCase.setUp(self)
        self.done(
            ("group", "a", "yard", 1, 9, 3, None), ("group", "b", "a", 1, 5, 2, None),
            ("group", "c", "yard", 1, None, None, None), ("spawn", 1, ()), ("spawn", 1, ()), ("spawn", 1, ()))

    def test_into_and_out_of_groups(self):
        self.done(("grow", 2, 4), ("move", 2, "b"))
        self.assertEqual([self.charges(name) for name in ["yard", "a", "b", "c"]], [(4, 4), (4, 1), (4, 1), (0, 0)])
        self.assertIsNone(self.do("move", 2, "a"))
        self.assertEqual([self.charges(name) for name in ["yard", "a", "b", "c"]], [(4, 4), (4, 1), (0, 0), (0, 0)])
        self.do("move", 2, "c")
        self.do("move", 2, "yard")
        self.assertEqual([self.charges(name) for name in ["yard", "a", "b", "c"]], [(4, 4), (0, 0), (0, 0), (0, 0)])
        self.assertEqual(self.ground.processes.going(2).group, "yard")

    def test_young_ones_stay(self):
        self.done(("spawn", 2, ()), ("move", 2, "c"))
        self.assertEqual(self.ground.processes.going(5).group, "yard")
        self.assertEqual(self.charges("c"), (0, 1))

    def test_refusals_in_their_order(self):
        for name in NO_NAMES + ["none"]:
            self.refused(NoGroup, "move", 1, name)
            self.refused(NoGroup, "move", 2, name)
        self.refused(Guarded, "move", 1, "yard")
        self.refused(Guarded, "move", 1, "a")
        self.refused(Itself, "move", 2, "yard")
        self.do("caps", "c", None, 0, None)
        self.assertEqual(self.refused(Capped, "move", 2, "c").group, "c")

    def test_itself_ahead_of_limits(self):
        self.done(("move", 2, "c"), ("caps", "c", None, 1, None))
        self.refused(Itself, "move", 2, "c")

    def test_limit_of_processes_ahead_of_one_of_units(self):
        self.done(("grow", 2, 6), ("move", 3, "b"), ("move", 4, "b"))
        self.assertEqual(self.refused(Capped, "move", 2, "b").group, "b")
        self.done(("caps", "b", 5, None, None), ("caps", "a", 9, 2, None))
        # b has no place for the units, but a none for the process, which is asked first.
        self.assertEqual(self.refused(Capped, "move", 2, "b").group, "a")
        self.do("caps", "a", 5, None, None)
        self.assertEqual(self.refused(Capped, "move", 2, "b").group, "b")
        self.do("caps", "b", None, None, None)
        self.assertEqual(self.refused(Capped, "move", 2, "b").group, "a")
        self.do("caps", "a", 6, 3, None)
        self.assertIsNone(self.do("move", 2, "b"))

    def test_groups_in_which_it_is_already_count_not(self):
        self.done(("grow", 2, 5), ("move", 2, "a"), ("caps", "a", 5, 1, 0), ("caps", "yard", 5, 4, 0))
        self.assertIsNone(self.do("move", 2, "b"))
        self.assertIsNone(self.do("move", 2, "a"))
        self.assertIsNone(self.do("move", 2, "c"))

    def test_a_frozen_one_may_be_moved(self):
        self.done(("move", 2, "a"), ("freeze", "a"), ("move", 2, "c"), ("want", 2, 1), ("move", 3, "a"))
        self.assertEqual(self.refused(Frozen, "want", 3, 1).group, "a")


class TestFreeze(GroundCase):
    def setUp(self):
        GroundCase.setUp(self)
        self.done(*[("group", name, inner, 1, None, None, None) for name, inner in
                    [("a", "yard"), ("b", "a"), ("c", "b"), ("d", "yard")]])
        self.done(*[("spawn", 1, ()) for many in range(4)])
        self.done(("move", 2, "a"), ("move", 3, "b"), ("move", 4, "c"), ("move", 5, "d"))

    def test_how_many(self):
        self.done(("spawn", 4, ()), ("finish", 6, 0))
        self.assertEqual(self.done(("freeze", "c"), ("freeze", "a"), ("freeze", "b"), ("freeze", "d")), [2, 4, 3, 1])
        self.assertEqual(self.done(("thaw", "b"), ("thaw", "d"), ("thaw", "c"), ("thaw", "a")), [3, 1, 2, 4])

    def test_the_outermost_that_is_frozen_itself(self):
        self.do("freeze", "c")
        self.assertEqual(self.refused(Frozen, "wait", 4).group, "c")
        self.do("want", 3, 1)
        self.do("freeze", "a")
        self.assertEqual([self.refused(Frozen, "wait", own).group for own in [2, 3, 4]], ["a", "a", "a"])
        self.do("freeze", "b")
        self.assertEqual(self.refused(Frozen, "wait", 4).group, "a")
        self.do("thaw", "a")
        self.do("want", 2, 1)
        self.assertEqual([self.refused(Frozen, "wait", own).group for own in [3, 4]], ["b", "b"])
        self.done(("thaw", "b"), ("want", 3, 2))
        self.assertEqual(self.refused(Frozen, "wait", 4).group, "c")
        self.done(("thaw", "c"), ("want", 4, 2), ("want", 5, 2))

    def test_refusals(self):
        for word in ["freeze", "thaw"]:
            for name in NO_NAMES + ["yard", "none"]:
                self.refused(NoGroup, word, name)
        self.do("freeze", "a")
        self.refused(Itself, "freeze", "a")
        self.refused(Itself, "thaw", "b")
        self.refused(Itself, "thaw", "d")
        self.do("freeze", "b")

    def test_a_frozen_one_may_be_struck_and_is_waited_for(self):
        self.done(("spawn", 5, ()), ("spawn", 6, ()), ("move", 6, "a"), ("move", 7, "a"), ("freeze", "a"))
        self.assertEqual(self.do("strike", 5, 6), 1)
        self.assertEqual(self.elders()[7], 1)
        self.assertEqual(self.do("wait", 5), (6, 9))

    def test_frozen_and_thawed_all_is_as_it_was(self):
        self.done(("want", 2, 5), ("want", 4, 3), ("grow", 3, 7), ("freeze", "b"))
        before = seen(self.ground)
        self.done(("freeze", "a"), ("thaw", "a"))
        self.assertEqual(seen(self.ground), before)

    def test_groups_that_hold_something_stay(self):
        for name in ["a", "b", "c", "d"]:
            self.refused(Held, "ungroup", name)
        self.done(("move", 4, "yard"), ("ungroup", "c"), ("move", 3, "yard"))
        self.refused(Held, "ungroup", "a")
        self.done(("ungroup", "b"), ("spawn", 2, ()), ("finish", 6, 0), ("move", 2, "yard"))
        # 6 ended, and is in its group till 2 waits for it.
        self.refused(Held, "ungroup", "a")
        self.done(("wait", 2), ("ungroup", "a"))

    def test_limits_below_what_is_there(self):
        self.done(("grow", 3, 7), ("spawn", 3, ()), ("finish", 6, 1))
        self.assertEqual(self.refused(Over, "caps", "a", 6, 3, None).many, 7)
        self.assertEqual(self.refused(Over, "caps", "a", 7, 3, None).many, 4)
        self.assertIsNone(self.do("caps", "a", 7, 4, 0))
        self.assertEqual(self.refused(Over, "caps", "yard", None, 5, None).many, 6)


class TestFinish(GroundCase):
    def test_outcomes(self):
        self.do("spawn", 1, ())
        for own, outcome in enumerate([0, 1, 254, 255], 3):
            self.do("spawn", 2, ())
            self.assertEqual(self.do("finish", own, outcome), 1)
        self.assertEqual([self.do("wait", 2) for many in range(4)], [(3, 0), (4, 1), (5, 254), (6, 255)])

    def test_refusals_in_their_order(self):
        self.do("spawn", 1, ())
        for outcome in NO_WHOLES + FAR_WHOLES + [-1, 256]:
            self.refused(NoNumber, "finish", 1, outcome)
            self.refused(NoNumber, "finish", 2, outcome)
        self.refused(Guarded, "finish", 1, 0)

    def test_who_ends_holds_and_wants_nothing(self):
        self.done(("spawn", 1, ()), ("spawn", 2, ()), ("grow", 3, 5), ("want", 3, 6), ("heft", 3, 4), ("tick", 2))
        self.assertEqual(self.do("finish", 3, 8), 1)
        left = self.ground.processes.by_own[3]
        self.assertEqual((left.units, left.want, left.heft, left.got, left.outcome), (0, 0, 4, (2, 1), 8))
        self.assertEqual(self.charges("yard"), (0, 3))
        self.assertEqual(self.do("tick", 9), [])

    def test_young_ones_get_the_first_of_the_room(self):
        self.done(("spawn", 1, ()), ("spawn", 2, ("numbers",)), ("spawn", 3, ()), ("spawn", 4, ()), ("spawn", 4, ()))
        self.done(("spawn", 4, ("numbers",)), ("finish", 6, 3))
        self.assertEqual(self.elders(), {1: None, 2: 1, 3: 2, 4: 3, 5: 4, 6: 4, 7: 4})
        self.assertEqual(self.do("finish", 4, 1), 1)
        # 5 goes, 6 ended, 7 is the first of its room: all get the first of the room in which 4 is.
        self.assertEqual(self.elders(), {1: None, 2: 1, 3: 2, 4: 3, 5: 3, 6: 3, 7: 3})
        self.do("finish", 2, 0)
        self.assertEqual(self.elders(), {1: None, 3: 1, 4: 3, 5: 3, 6: 3, 7: 3})
        self.assertEqual(self.done(("wait", 3), ("wait", 3)), [(2, 1), (4, 3)])

    def test_who_ended_is_no_more_where_the_first_of_the_yard_is_its_elder(self):
        self.done(("spawn", 1, ()), ("spawn", 2, ()), ("spawn", 2, ()), ("finish", 3, 4))
        self.assertEqual((self.owns(), self.ended()), ([1, 2, 4], [3]))
        self.do("finish", 2, 0)
        self.assertEqual((self.owns(), self.ended()), ([1, 4], []))
        self.assertEqual(self.charges("yard"), (0, 2))
        self.assertEqual([number for number, own in self.ground.rooms.seen_from(1)], [1, 4])

    def test_the_first_of_a_room_ends_with_all_within(self):
        self.done(("group", "g", "yard", 1, None, None, None), ("spawn", 1, ()), ("spawn", 2, ("numbers",)))
        self.done(("spawn", 3, ()), ("spawn", 3, ("numbers", "boxes")), ("spawn", 5, ()), ("spawn", 5, ("numbers",)))
        self.done(("spawn", 3, ()), ("finish", 8, 1), ("move", 6, "g"), ("grow", 6, 5), ("grow", 3, 1))
        self.assertEqual(self.ground.rooms.many_rooms(), (4, 1, 2))
        # 3, 4, 5, 6 and 7 end; 8 ended ahead, and goes with its room.
        self.assertEqual(self.do("finish", 3, 5), 5)
        self.assertEqual((self.owns(), self.ended()), ([1, 2], [3]))
        self.assertEqual((self.charges("yard"), self.charges("g")), ((0, 3), (0, 0)))
        self.assertEqual(self.ground.rooms.many_rooms(), (2, 1, 1))
        self.assertEqual(self.do("wait", 2), (3, 5))
        self.assertEqual(self.ground.rooms.many_rooms(), (1, 1, 1))

    def test_others_in_the_room_around_stay(self):
        self.done(("spawn", 1, ("numbers",)), ("spawn", 2, ("numbers",)), ("spawn", 2, ()), ("spawn", 3, ()))
        self.assertEqual(self.do("finish", 3, 0), 2)
        self.assertEqual((self.owns(), self.ended()), ([1, 2, 4], [3]))
        self.assertEqual(self.do("finish", 2, 0), 2)
        self.assertEqual((self.owns(), self.ended()), ([1], []))

    def test_a_long_row_of_rooms_ends(self):
        for own in range(1, 600):
            self.do("spawn", own, ALL)
        self.assertEqual(self.do("finish", 2, 0), 599)
        self.assertEqual((self.owns(), self.ground.rooms.many_rooms()), ([1], (1, 1, 1)))


class TestStrike(GroundCase):
    def test_from_inside_and_from_outside(self):
        self.done(("spawn", 1, ("numbers",)), ("spawn", 2, ()), ("spawn", 2, ()), ("spawn", 2, ()))
        self.assertEqual(self.do("strike", 5, 2), 1)
        self.assertEqual(self.do("strike", 1, 4), 1)
        self.assertEqual((self.owns(), self.ended()), ([1, 2, 5], [3, 4]))
        self.assertEqual(self.done(("wait", 2), ("wait", 2)), [(2, 9), (3, 9)])
        self.refused(Guarded, "strike", 5, 1)
        # From outside the first of a room has another number.
        self.assertEqual(self.do("strike", 1, 2), 2)
        self.assertEqual(self.owns(), [1])

    def test_itself(self):
        self.done(("spawn", 1, ()), ("spawn", 2, ()))
        self.assertEqual(self.do("strike", 3, 3), 1)
        self.assertEqual(self.do("wait", 2), (3, 9))

    def test_guarded(self):
        self.done(("spawn", 1, ()), ("spawn", 1, ("numbers",)))
        for own in [1, 2, 3]:
            self.refused(Guarded, "strike", own, 1)

    def test_no_such(self):
        self.done(("spawn", 1, ()), ("spawn", 2, ("numbers",)), ("spawn", 2, ()), ("finish", 4, 0))
        for number in NO_WHOLES + FAR_WHOLES + [0, -1, 5]:
            self.refused(NoSuch, "strike", 1, number)
        self.refused(NoSuch, "strike", 2, 4)
        self.refused(NoSuch, "strike", 3, 2)
        self.do("wait", 2)
        self.refused(NoSuch, "strike", 2, 4)

    def test_one_in_a_room_within_the_room(self):
        self.done(("spawn", 1, ()), ("spawn", 2, ("numbers",)), ("spawn", 3, ("numbers",)), ("spawn", 4, ()))
        self.assertEqual(self.do("strike", 3, 3), 1)
        self.assertEqual(self.do("wait", 4), (2, 9))
        self.assertEqual(self.do("strike", 2, 4), 1)
        self.assertEqual(self.do("wait", 3), (2, 9))


class TestWait(GroundCase):
    def test_by_rising_numbers(self):
        self.done(("spawn", 1, ()), *[("spawn", 2, fresh) for fresh in [(), ("numbers",), (), ("numbers",)]])
        self.done(("finish", 6, 6), ("finish", 4, 4), ("finish", 5, 5))
        self.assertEqual(self.do("wait", 2), (4, 4))
        self.do("finish", 3, 3)
        self.assertEqual([self.do("wait", 2) for many in range(3)], [(3, 3), (5, 5), (6, 6)])
        self.refused(NoChild, "wait", 2)

    def test_numbers_are_those_in_the_room_of_who_waits(self):
        self.done(("spawn", 1, ()), ("spawn", 2, ("numbers",)), ("spawn", 3, ("numbers",)), ("spawn", 3, ()))
        self.done(("finish", 5, 1), ("finish", 4, 2))
        # 4 has number 1 in its own room, 2 in that of 3, and 4 in the outermost one.
        self.assertEqual(self.done(("wait", 3), ("wait", 3)), [(2, 2), (3, 1)])

    def test_no_child_and_not_yet(self):
        self.refused(NoChild, "wait", 1)
        self.do("spawn", 1, ())
        self.refused(NotYet, "wait", 1)
        self.refused(NoChild, "wait", 2)
        self.do("spawn", 2, ())
        self.refused(NotYet, "wait", 2)
        self.done(("spawn", 2, ()), ("finish", 4, 0), ("wait", 2))
        self.refused(NotYet, "wait", 2)

    def test_the_first_of_the_yard_never_has_one_to_wait_for(self):
        self.done(("spawn", 1, ()), ("finish", 2, 0))
        self.refused(NoChild, "wait", 1)

    def test_only_its_own_young_ones(self):
        self.done(("spawn", 1, ()), ("spawn", 2, ()), ("spawn", 3, ()), ("finish", 4, 0))
        self.refused(NotYet, "wait", 2)
        self.assertEqual(self.do("wait", 3), (4, 0))

    def test_rooms_that_are_no_more(self):
        self.done(("spawn", 1, ()), ("spawn", 2, ALL), ("spawn", 3, ()))
        self.assertEqual(self.ground.rooms.many_rooms(), (2, 2, 2))
        self.do("finish", 3, 0)
        # The room of numbers stays while one that ended is in it; the others need one that goes.
        self.assertEqual(self.ground.rooms.many_rooms(), (2, 1, 1))
        self.do("wait", 2)
        self.assertEqual(self.ground.rooms.many_rooms(), (1, 1, 1))

    def test_a_group_is_free_again(self):
        self.done(("group", "g", "yard", 1, None, 2, None), ("spawn", 1, ()), ("move", 2, "g"), ("spawn", 2, ()))
        self.done(("finish", 3, 0))
        self.refused(Capped, "spawn", 2, ())
        self.do("wait", 2)
        self.assertEqual(self.charges("g"), (0, 1))
        self.do("spawn", 2, ())


if __name__ == "__main__":
    unittest.main()

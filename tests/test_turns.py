"""Turns and units: [5.1], [5.2], and [0.2] (a), (b) and (f) as far as they speak of turns."""

import random
import unittest
from fractions import Fraction

from cellyard.errors import Capped, NoNumber, TooFew
from cellyard.sharing import parted, shares
from helper import FAR_WHOLES, NO_WHOLES, GroundCase


class TestParted(unittest.TestCase):
    def test_of_a_whole_amount_as_by_shares(self):
        wants = [(1, 10), (2, 10), (3, 4), (5, 0)]
        for amount in range(30):
            self.assertEqual(parted((amount, 1), wants), shares(amount, wants))

    def test_of_a_fraction(self):
        self.assertEqual(parted((1, 2), [(1, 5), (2, 5)]), [(1, 6), (1, 3)])
        self.assertEqual(parted((7, 3), [(1, 1), (1, 5)]), [(1, 1), (4, 3)])
        self.assertEqual(parted((7, 2), [(1, 1), (4, 2)]), [(1, 1), (2, 1)])
        self.assertEqual(parted((0, 1), [(1, 1), (4, 2)]), [(0, 1), (0, 1)])
        self.assertEqual(parted((0, 1), []), [])

    def test_of_more_and_higher_wants_than_shares_takes(self):
        self.assertEqual(parted((5, 7), [(100, 5000)] * 25), [(1, 35)] * 25)
        self.assertEqual(parted((99999, 1), [(1, 50000), (1, 20000)]), [(50000, 1), (20000, 1)])


class TestWantsAndWeights(GroundCase):
    def test_ends_of_numbers(self):
        self.do("spawn", 1, ())
        for many in [0, 1, 998, 999]:
            self.assertIsNone(self.do("want", 2, many))
            self.assertEqual(self.ground.processes.going(2).want, many)
        for heft in [1, 2, 99, 100]:
            self.assertIsNone(self.do("heft", 2, heft))
            self.assertEqual(self.ground.processes.going(2).heft, heft)

    def test_refusals(self):
        for thing in NO_WHOLES + FAR_WHOLES + [-1, 1000]:
            self.refused(NoNumber, "want", 1, thing)
        for thing in NO_WHOLES + FAR_WHOLES + [-1, 0, 101]:
            self.refused(NoNumber, "heft", 1, thing)
        for thing in NO_WHOLES + FAR_WHOLES + [-1, 10000]:
            self.refused(NoNumber, "tick", thing)


class TestUnits(GroundCase):
    def test_more_and_fewer(self):
        self.assertEqual(self.done(("grow", 1, 1), ("grow", 1, 999), ("grow", 1, 999)), [1, 1000, 1999])
        self.assertEqual(self.done(("shrink", 1, 999), ("shrink", 1, 1), ("shrink", 1, 999)), [1000, 999, 0])
        self.assertEqual(self.charges("yard"), (0, 1))

    def test_refusals(self):
        self.done(("grow", 1, 5), ("caps", "yard", 5, None, None))
        for thing in NO_WHOLES + FAR_WHOLES + [-1, 0, 1000]:
            self.refused(NoNumber, "grow", 1, thing)
            self.refused(NoNumber, "shrink", 1, thing)
        self.assertEqual(self.refused(Capped, "grow", 1, 1).group, "yard")
        self.refused(TooFew, "shrink", 1, 6)
        self.assertEqual(self.do("shrink", 1, 5), 0)
        self.refused(TooFew, "shrink", 1, 1)

    def test_limits_are_met_just_so(self):
        self.done(("group", "a", "yard", 1, 10, None, None), ("group", "b", "a", 1, 6, None, None))
        self.done(("spawn", 1, ()), ("spawn", 1, ()), ("move", 2, "b"), ("move", 3, "a"))
        self.assertEqual(self.refused(Capped, "grow", 2, 7).group, "b")
        self.assertEqual(self.refused(Capped, "grow", 2, 999).group, "b")
        self.assertEqual(self.do("grow", 2, 6), 6)
        self.assertEqual(self.refused(Capped, "grow", 3, 5).group, "a")
        self.assertEqual(self.do("grow", 3, 4), 4)
        self.assertEqual(self.do("grow", 1, 999), 999)
        self.done(("caps", "b", None, None, None))
        self.assertEqual(self.refused(Capped, "grow", 2, 1).group, "a")
        self.assertEqual([self.charges(name) for name in ["yard", "a", "b"]], [(1009, 3), (10, 2), (6, 1)])

    def test_a_limit_of_nothing(self):
        self.do("caps", "yard", 0, None, None)
        self.assertEqual(self.refused(Capped, "grow", 1, 1).group, "yard")


class TestTick(GroundCase):
    def grown(self, *processes):
        """Processes 2 and so on of these (group, weight, want)."""
        for own, (group, heft, want) in enumerate(processes, len(self.ground.processes.by_own) + 1):
            self.do("spawn", 1, ())
            if group != "yard":
                self.do("move", own, group)
            self.done(("heft", own, heft), ("want", own, want))

    def test_nobody_wants_any(self):
        self.do("spawn", 1, ())
        for amount in [0, 1, 9999]:
            self.assertEqual(self.do("tick", amount), [])

    def test_within_one_group(self):
        self.grown(("yard", 1, 10), ("yard", 2, 10), ("yard", 3, 4))
        self.assertEqual(self.do("tick", 10), [(2, (2, 1)), (3, (4, 1)), (4, (4, 1))])
        self.assertEqual(self.do("tick", 30), [(2, (10, 1)), (3, (10, 1)), (4, (4, 1))])
        self.assertEqual(self.do("tick", 1), [(2, (1, 6)), (3, (1, 3)), (4, (1, 2))])
        self.assertEqual(self.do("tick", 0), [])
        got = [self.ground.processes.going(own).got for own in [1, 2, 3, 4]]
        self.assertEqual(got, [(0, 1), (73, 6), (43, 3), (17, 2)])

    def test_who_gets_nothing_is_not_told(self):
        self.grown(("yard", 1, 0), ("yard", 1, 3))
        self.do("want", 1, 1)
        self.assertEqual(self.do("tick", 9), [(1, (1, 1)), (3, (3, 1))])

    def test_groups_in_groups_by_weights(self):
        self.done(("group", "a", "yard", 3, None, None, None), ("group", "b", "a", 1, None, None, None))
        self.grown(("yard", 1, 100), ("a", 1, 100), ("b", 1, 100), ("b", 2, 100))
        # yard: 2 has 1 of 4, a 3 of 4; a: 3 has half, b half; b: 4 has a third, 5 two.
        self.assertEqual(self.do("tick", 8), [(2, (2, 1)), (3, (3, 1)), (4, (1, 1)), (5, (2, 1))])
        self.assertEqual(self.do("tick", 1), [(2, (1, 4)), (3, (3, 8)), (4, (1, 8)), (5, (1, 4))])
        self.assertEqual(self.do("tick", 9999), [(own, (100, 1)) for own in [2, 3, 4, 5]])

    def test_what_a_group_does_not_want_goes_to_others(self):
        self.done(("group", "a", "yard", 100, None, None, None), ("group", "b", "yard", 1, None, None, None))
        self.grown(("a", 1, 2), ("b", 1, 50), ("yard", 1, 50))
        self.assertEqual(self.do("tick", 10), [(2, (2, 1)), (3, (4, 1)), (4, (4, 1))])

    def test_limits_of_turns(self):
        self.done(("group", "a", "yard", 9, None, None, 4), ("group", "b", "a", 1, None, None, 1))
        self.grown(("a", 1, 10), ("b", 1, 10), ("b", 1, 10), ("yard", 1, 10))
        # b wants 1, a wants 4, yard 14; a is sated, and so is b within it: 3 for 2, and 1 for both of b.
        self.assertEqual(self.do("tick", 9999), [(2, (3, 1)), (3, (1, 2)), (4, (1, 2)), (5, (10, 1))])
        self.do("caps", "yard", None, None, 5)
        # yard gets 5: 1 of 10 for 5, but a takes no more than 4, which leaves 1.
        self.assertEqual(self.do("tick", 9999), [(2, (3, 1)), (3, (1, 2)), (4, (1, 2)), (5, (1, 1))])
        self.do("caps", "a", None, None, 0)
        self.assertEqual(self.do("tick", 9999), [(5, (5, 1))])
        self.do("caps", "yard", None, None, 0)
        self.assertEqual(self.do("tick", 9999), [])

    def test_what_is_frozen_gets_none(self):
        self.done(("group", "a", "yard", 1, None, None, None), ("group", "b", "a", 1, None, None, None))
        self.grown(("a", 1, 10), ("b", 1, 10), ("yard", 1, 10))
        self.do("freeze", "b")
        self.assertEqual(self.do("tick", 6), [(2, (3, 1)), (4, (3, 1))])
        self.do("freeze", "a")
        self.assertEqual(self.do("tick", 6), [(4, (6, 1))])
        self.do("thaw", "b")
        self.assertEqual(self.do("tick", 6), [(4, (6, 1))])
        self.do("thaw", "a")
        self.assertEqual(self.do("tick", 6), [(2, (3, 2)), (3, (3, 2)), (4, (3, 1))])

    def test_who_ended_gets_none(self):
        self.grown(("yard", 1, 10), ("yard", 1, 10))
        self.done(("spawn", 2, ()), ("want", 4, 10), ("finish", 4, 0))
        self.assertEqual(self.do("tick", 6), [(2, (3, 1)), (3, (3, 1))])
        self.do("finish", 2, 0)
        self.assertEqual(self.do("tick", 6), [(3, (6, 1))])

    def test_more_takers_and_higher_wants_than_shares_takes(self):
        self.do("group", "a", "yard", 1, None, None, None)
        self.grown(*[("a", 1, 999)] * 14 + [("yard", 1, 999)] * 2)
        shares_told = self.do("tick", 9999)
        # The two get 999 each, a the rest of 8001, and each in it a fourteenth of that.
        self.assertEqual(shares_told, [(own, (1143, 2)) for own in range(2, 16)] + [(16, (999, 1)), (17, (999, 1))])

    def test_got_is_kept_exactly(self):
        self.grown(("yard", 1, 1), ("yard", 1, 1), ("yard", 1, 1))
        for many in range(7):
            self.do("tick", 1)
        self.assertEqual([self.ground.processes.going(own).got for own in [2, 3, 4]], [(7, 3)] * 3)
        self.do("want", 2, 0)
        self.do("tick", 1)
        self.assertEqual([self.ground.processes.going(own).got for own in [2, 3, 4]], [(7, 3), (17, 6), (17, 6)])

    def test_a_list_of_its_own(self):
        self.grown(("yard", 1, 5))
        told = self.do("tick", 5)
        told.clear()
        self.assertEqual(self.do("tick", 5), [(2, (5, 1))])

    def test_deep_groups(self):
        outer = "yard"
        for at in range(1500):
            name = "".join("abcdefghij"[int(figure)] for figure in str(at))
            self.do("group", name, outer, 1, None, None, None)
            outer = name
        self.grown((outer, 1, 7))
        self.assertEqual(self.do("tick", 3), [(2, (3, 1))])

    def test_all_together_get_what_is_given(self):
        rng = random.Random(7)
        for many in range(40):
            self.setUp()
            names = ["yard"]
            for name in "abcde"[:rng.randrange(6)]:
                cap = rng.choice([None, None, rng.randrange(30)])
                self.do("group", name, rng.choice(names), rng.randrange(1, 9), None, None, cap)
                names.append(name)
            self.grown(*[
                (rng.choice(names), rng.randrange(1, 9), rng.randrange(20)) for own in range(rng.randrange(9))])
            before = {process.own: process.got for process in self.ground.processes.all_going()}
            amount = rng.randrange(60)
            told = dict(self.do("tick", amount))
            self.assertEqual(list(told), sorted(told))
            total = sum(Fraction(*share) for share in told.values())
            self.assertLessEqual(total, amount)
            for process in self.ground.processes.all_going():
                share = Fraction(*told.get(process.own, (0, 1)))
                self.assertLessEqual(share, process.want)
                self.assertEqual(Fraction(*before[process.own]) + share, Fraction(*process.got))
            for name in names:
                inside = self.ground.groups.names_within(name)
                owns = [process.own for process in self.ground.processes.all_in(inside)]
                got = sum(Fraction(*told.get(own, (0, 1))) for own in owns)
                cap = self.ground.groups.known(name).turn_cap
                self.assertTrue(cap is None or got <= cap)


if __name__ == "__main__":
    unittest.main()

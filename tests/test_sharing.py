"""Shares: [1.1], [0.2] (a), and what [0.3] says of them."""

import copy
import itertools
import random
import unittest
from fractions import Fraction
from math import gcd

from cellyard.errors import CellError, NoNumber, NoWants
from cellyard.sharing import level, shares, unshared
from helper import FAR_WHOLES, NO_WHOLES, nested

ALL_THREE = [shares, level, unshared]
SOME = [(1, 10), (2, 10), (3, 4)]
NO_AMOUNTS = NO_WHOLES + FAR_WHOLES + [-1, -5, 10000, 10001]


def all_mosts(wants):
    return sum(most for weight, most in wants)


class TestOrdinary(unittest.TestCase):
    def told(self, amount, wants, reached, parts, left):
        self.assertEqual(level(amount, wants), reached)
        self.assertEqual(shares(amount, wants), parts)
        self.assertEqual(unshared(amount, wants), left)

    def test_all_short(self):
        self.told(4, [(1, 10), (2, 10), (3, 10)], (2, 3), [(2, 3), (4, 3), (2, 1)], 0)

    def test_one_sated(self):
        self.told(10, SOME, (2, 1), [(2, 1), (4, 1), (4, 1)], 0)

    def test_two_sated_one_behind_the_other(self):
        # At first only the third is sated; what it leaves sates the second as well.
        self.told(20, [(1, 30), (2, 9), (3, 4)], (7, 1), [(7, 1), (9, 1), (4, 1)], 0)

    def test_sated_just_at_the_level(self):
        self.told(9, [(1, 3), (1, 5), (1, 7)], (3, 1), [(3, 1), (3, 1), (3, 1)], 0)

    def test_one_weight(self):
        self.told(10, [(1, 5), (1, 5), (1, 5)], (10, 3), [(10, 3)] * 3, 0)
        self.told(10, [(7, 1), (7, 20), (7, 20)], (9, 14), [(1, 1), (9, 2), (9, 2)], 0)

    def test_several_weights(self):
        self.told(7, [(2, 999), (5, 999)], (1, 1), [(2, 1), (5, 1)], 0)
        self.told(7, [(4, 999), (10, 999)], (1, 2), [(2, 1), (5, 1)], 0)
        self.told(1, [(99, 999), (100, 999)], (1, 199), [(99, 199), (100, 199)], 0)

    def test_order_is_kept(self):
        self.assertEqual(shares(10, SOME[::-1]), shares(10, SOME)[::-1])
        self.assertEqual(shares(100, [(1, 9), (9, 1), (5, 5)]), [(9, 1), (1, 1), (5, 1)])

    def test_wants_that_are_alike(self):
        self.told(5, [(2, 3), (2, 3)], (5, 4), [(5, 2), (5, 2)], 0)
        self.told(7, [(2, 3), (2, 3)], None, [(3, 1), (3, 1)], 1)


class TestEdges(unittest.TestCase):
    told = TestOrdinary.told

    def test_no_wants(self):
        for amount in [0, 1, 9999]:
            self.told(amount, [], None, [], amount)

    def test_one_want(self):
        self.told(0, [(3, 7)], (0, 1), [(0, 1)], 0)
        self.told(5, [(3, 7)], (5, 3), [(5, 1)], 0)
        self.told(6, [(3, 7)], (2, 1), [(6, 1)], 0)
        self.told(7, [(3, 7)], None, [(7, 1)], 0)
        self.told(8, [(3, 7)], None, [(7, 1)], 1)
        self.told(9999, [(3, 7)], None, [(7, 1)], 9992)

    def test_twelve_wants(self):
        wants = [(weight, 10 * weight) for weight in range(1, 13)]
        self.told(779, wants, (779, 78), [
            Fraction(779 * weight, 78).as_integer_ratio() for weight in range(1, 13)], 0)
        self.told(780, wants, None, [(10 * weight, 1) for weight in range(1, 13)], 0)
        self.told(781, wants, None, [(10 * weight, 1) for weight in range(1, 13)], 1)

    def test_twelve_wants_of_all_that_can_be_wanted(self):
        wants = [(100, 999)] * 12
        self.told(9999, wants, (3333, 400), [(3333, 4)] * 12, 0)
        self.told(0, wants, (0, 1), [(0, 1)] * 12, 0)
        self.told(1, wants, (1, 1200), [(1, 12)] * 12, 0)

    def test_twelve_wants_that_are_sated_one_by_one(self):
        wants = [(1, 2 ** at - 1 if at < 10 else 999) for at in range(12)]
        # The ten with most below 999 want 1013 together; two are left with 1087 between them.
        self.told(2100, wants, (1087, 2), [(2 ** at - 1, 1) for at in range(10)] + [(1087, 2)] * 2, 0)

    def test_amount_of_nothing(self):
        self.told(0, SOME, (0, 1), [(0, 1)] * 3, 0)
        self.told(0, [(5, 0), (5, 1)], (0, 1), [(0, 1)] * 2, 0)

    def test_greatest_amount(self):
        self.told(9999, SOME, None, [(10, 1), (10, 1), (4, 1)], 9975)
        self.told(9999, [(1, 999)] * 10, None, [(999, 1)] * 10, 9)
        self.told(9999, [(1, 999)] * 10 + [(1, 9)], None, [(999, 1)] * 10 + [(9, 1)], 0)
        self.told(9999, [(1, 999)] * 10 + [(1, 10)], (9989, 10), [(9989, 10)] * 10 + [(10, 1)], 0)

    def test_round_all_mosts_together(self):
        self.told(23, SOME, (9, 1), [(9, 1), (10, 1), (4, 1)], 0)
        self.told(24, SOME, None, [(10, 1), (10, 1), (4, 1)], 0)
        self.told(25, SOME, None, [(10, 1), (10, 1), (4, 1)], 1)

    def test_mosts_of_nothing(self):
        self.told(0, [(1, 0)], None, [(0, 1)], 0)
        self.told(0, [(1, 0), (100, 0)], None, [(0, 1), (0, 1)], 0)
        self.told(9999, [(1, 0), (100, 0)], None, [(0, 1), (0, 1)], 9999)
        self.told(3, [(100, 0), (1, 6)], (3, 1), [(0, 1), (3, 1)], 0)

    def test_greatest_mosts(self):
        self.told(998, [(1, 999)], (998, 1), [(998, 1)], 0)
        self.told(999, [(1, 999)], None, [(999, 1)], 0)
        self.told(1000, [(1, 999)], None, [(999, 1)], 1)

    def test_least_and_greatest_weights(self):
        self.told(101, [(1, 999), (100, 999)], (1, 1), [(1, 1), (100, 1)], 0)
        self.told(50, [(1, 999), (100, 999)], (50, 101), [(50, 101), (5000, 101)], 0)
        self.told(1500, [(1, 999), (100, 999)], (501, 1), [(501, 1), (999, 1)], 0)


def some_wants():
    """Many wants with amounts, the same ones at each run."""
    source = random.Random(11)
    for many in list(range(13)) * 40:
        top_weight, top_most = source.choice([(1, 999), (3, 9), (100, 999), (100, 30), (7, 3)])
        wants = [(source.randint(1, top_weight), source.randint(0, top_most)) for at in range(many)]
        whole = all_mosts(wants)
        near = [0, 1, whole // 3, whole // 2, whole - 1, whole, whole + 1, 9999, source.randint(0, whole)]
        for amount in near:
            if 0 <= amount <= 9999:
                yield amount, wants


def small_wants():
    """All pairs of small wants, and some triples, with small amounts."""
    each = [(weight, most) for weight in (1, 2, 3) for most in range(4)]
    for wants in itertools.product(each, repeat=2):
        for amount in range(8):
            yield amount, list(wants)
    for wants in itertools.product(each[::3], repeat=3):
        for amount in range(6):
            yield amount, list(wants)


def served(parts, wants):
    """What each gets for each unit of weight, the least served first."""
    return sorted(Fraction(part) / weight for part, (weight, most) in zip(parts, wants))


class TestParting(unittest.TestCase):
    """What [0.2] (a) says of all wants."""

    def holds(self, amount, wants):
        parts = shares(amount, wants)
        reached = level(amount, wants)
        self.assertEqual(len(parts), len(wants))
        self.assertEqual(reached is None, amount >= all_mosts(wants))
        for top, below in parts + ([] if reached is None else [reached]):
            self.assertTrue(top >= 0 and below > 0 and gcd(top, below) == 1)
        left = unshared(amount, wants)
        self.assertIs(left.__class__, int)
        self.assertGreaterEqual(left, 0)
        self.assertEqual(sum(Fraction(*part) for part in parts) + left, amount)
        for part, (weight, most) in zip(parts, wants):
            self.assertLessEqual(Fraction(*part), most)
            if Fraction(*part) < most:
                self.assertEqual(Fraction(*part), Fraction(*reached) * weight)
            elif reached is not None:
                self.assertLessEqual(most, Fraction(*reached) * weight)

    def test_many_wants(self):
        for amount, wants in some_wants():
            with self.subTest(amount=amount, wants=wants):
                self.holds(amount, wants)

    def test_small_wants(self):
        for amount, wants in small_wants():
            with self.subTest(amount=amount, wants=wants):
                self.holds(amount, wants)

    def test_no_other_parting_serves_the_least_served_more(self):
        for amount, wants in small_wants():
            own = served([Fraction(*part) for part in shares(amount, wants)], wants)
            for parts in itertools.product(*[range(most + 1) for weight, most in wants]):
                if sum(parts) <= amount:
                    self.assertLessEqual(served(parts, wants), own, (amount, wants, parts))

    def test_what_is_told_is_plain(self):
        for amount, wants in [(10, SOME), (99, SOME), (0, [])]:
            told = shares(amount, wants)
            self.assertIs(told.__class__, list)
            for part in told + [level(10, SOME)]:
                self.assertIs(part.__class__, tuple)
                self.assertEqual([number.__class__ for number in part], [int, int])


class TestRefusals(unittest.TestCase):
    def refuses(self, error, amount, wants):
        for ask in ALL_THREE:
            with self.assertRaises(CellError) as taken:
                ask(amount, wants)
            self.assertIs(taken.exception.__class__, error)

    def test_what_is_no_amount(self):
        for amount in NO_AMOUNTS:
            for wants in [SOME, []]:
                self.refuses(NoNumber, amount, wants)

    def test_amounts_at_the_bounds_are_taken(self):
        for ask in ALL_THREE:
            ask(0, SOME)
            ask(9999, SOME)

    def test_things_of_other_kinds_are_no_wants(self):
        things = [
            True, False, None, 0, 5, "", "ab", (), ((1, 2),), tuple(SOME), (1, 2), {}, {1: 2},
            1.5, b"ab", nested(6), nested(7), nested(3000), nested(3001),
        ] + FAR_WHOLES
        for wants in things:
            self.refuses(NoWants, 5, wants)

    def test_wants_that_are_no_tuples_of_two(self):
        wrong = [
            [1, 2], (), (1,), (1, 2, 3), (1, 2, None), 1, 12, "ab", "", None, True, ((1, 2),), [(1, 2)],
            nested(5), nested(6), nested(3000), b"ab", {1: 2, 3: 4},
        ]
        for want in wrong:
            for wants in [[want], [(1, 2), want], [want, (1, 2)], [(1, 2)] * 11 + [want]]:
                self.refuses(NoWants, 5, wants)

    def test_weights_that_are_none(self):
        for weight in NO_WHOLES + FAR_WHOLES + [0, -1, 101, 102]:
            for wants in [[(weight, 2)], [(1, 2), (weight, 2)], [(weight, 0), (1, 2)]]:
                self.refuses(NoWants, 5, wants)

    def test_mosts_that_are_none(self):
        for most in NO_WHOLES + FAR_WHOLES + [-1, -2, 1000, 1001]:
            for wants in [[(1, most)], [(1, 2), (1, most)], [(100, most), (1, 2)]]:
                self.refuses(NoWants, 5, wants)

    def test_wants_at_the_bounds_are_taken(self):
        for ask in ALL_THREE:
            ask(5, [(1, 0), (1, 999), (100, 0), (100, 999)] * 3)

    def test_thirteen_wants(self):
        self.refuses(NoWants, 5, [(1, 2)] * 13)
        self.refuses(NoWants, 5, [(1, 0)] * 13)
        self.refuses(NoWants, 5, [(1, 2)] * 500)

    def test_no_number_comes_ahead_of_no_wants(self):
        for amount in NO_AMOUNTS:
            for wants in [None, (), [5], [(1, 2)] * 13, [(0, 2)], [(True, 2)], amount]:
                self.refuses(NoNumber, amount, wants)

    def test_nothing_is_kept_of_what_was_refused(self):
        before = [ask(10, SOME) for ask in ALL_THREE]
        self.refuses(NoNumber, -1, SOME)
        self.refuses(NoWants, 10, SOME + [(0, 1)])
        self.assertEqual([ask(10, SOME) for ask in ALL_THREE], before)


class TestLists(unittest.TestCase):
    def test_each_told_list_is_a_new_one(self):
        for amount in [0, 10, 24, 9999]:
            one, other = shares(amount, SOME), shares(amount, SOME)
            self.assertEqual(one, other)
            self.assertIsNot(one, other)

    def test_changing_what_is_told_changes_nothing_told_later(self):
        for wants in [SOME, []]:
            for amount in [0, 10, 9999]:
                told = shares(amount, wants)
                before = list(told)
                told.append((5, 1))
                told[0] = None
                self.assertEqual(shares(amount, wants), before)

    def test_told_list_is_not_the_one_handed_in(self):
        wants = [(1, 1), (2, 1)]
        told = shares(2, wants)
        told.clear()
        self.assertEqual(wants, [(1, 1), (2, 1)])
        empty = []
        shares(2, empty).append(1)
        self.assertEqual(empty, [])

    def test_wants_stay_as_they_were(self):
        for ask in ALL_THREE:
            for amount in [0, 5, 10, 23, 24, 9999]:
                wants = copy.deepcopy(SOME)
                ask(amount, wants)
                self.assertEqual(wants, SOME)

    def test_wants_that_are_refused_stay_as_they_were(self):
        for ask in ALL_THREE:
            wants = [(1, 2), [1, 2], (0, 5)]
            with self.assertRaises(NoWants):
                ask(5, wants)
            self.assertEqual(wants, [(1, 2), [1, 2], (0, 5)])

    def test_wants_are_not_kept(self):
        wants = [(1, 10), (1, 10)]
        before = shares(6, wants), level(6, wants), unshared(6, wants)
        wants.append((1, 10))
        self.assertEqual(before, ([(3, 1), (3, 1)], (3, 1), 0))
        self.assertEqual(shares(6, wants), [(2, 1)] * 3)
        self.assertEqual(level(6, wants), (2, 1))
        self.assertEqual(unshared(31, wants), 1)

    def test_asked_again_the_same_is_told(self):
        for amount, wants in some_wants():
            for ask in ALL_THREE:
                self.assertEqual(ask(amount, wants), ask(amount, list(wants)))


if __name__ == "__main__":
    unittest.main()

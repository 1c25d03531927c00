"""Groups: [3.1], [3.2], [3.3], what [8.2] tells of them, and [0.2] (b)."""

import random
import unittest

from cellyard.errors import Capped, Frozen, Held, Itself, NoGroup, NoName, NoNumber, Over, Taken
from cellyard.groups import Groups, check_heft
from helper import FAR_WHOLES, NO_NAMES, NO_TEXTS, NO_WHOLES, refuses

NO_HEFTS = NO_WHOLES + FAR_WHOLES + [0, -1, 101, 102]
NO_CAPS = [thing for thing in NO_WHOLES if thing is not None] + FAR_WHOLES + [-1, -2, 10000, 10001]
NO_GROUPS = NO_NAMES + ["other", "z", "yar", "yards"]
CAPS = ["unit_cap", "head_cap", "turn_cap"]
YARD = ("yard", None, 1, None, None, None, False)


def seen(groups):
    """All that is told of the groups."""
    rows = groups.rows()
    names = [row[0] for row in rows]
    return rows, [groups.charges(name) for name in names], [groups.outermost_frozen(name) for name in names]


def some_groups():
    """yard holds a, which holds b, which holds c; and d, which holds e."""
    groups = Groups()
    for name, inner in [("a", "yard"), ("b", "a"), ("c", "b"), ("d", "yard"), ("e", "d")]:
        groups.make_group(name, inner)
    return groups


class Case(unittest.TestCase):
    def refused(self, groups, error, do, *things, **named):
        """The deed is refused by this very class, and nothing changes."""
        before = seen(groups)
        told = refuses(self, error, do, *things, **named)
        self.assertEqual(seen(groups), before)
        return told


class TestMade(Case):
    def test_at_first(self):
        groups = Groups()
        self.assertEqual(groups.rows(), [YARD])
        self.assertEqual(groups.charges("yard"), (0, 0))
        self.assertIsNone(groups.outermost_frozen("yard"))

    def test_each_yard_has_its_own(self):
        one, other = Groups(), Groups()
        one.make_group("a", "yard")
        one.admit("yard", heads=2, units=3)
        self.assertEqual(seen(other), seen(Groups()))

    def test_without_weight_and_limits(self):
        groups = Groups()
        self.assertIsNone(groups.make_group("a", "yard"))
        self.assertEqual(groups.rows(), [("a", "yard", 1, None, None, None, False), YARD])

    def test_with_weight_and_limits(self):
        groups = Groups()
        groups.make_group("a", "yard", heft=7, unit_cap=5, head_cap=6, turn_cap=8)
        groups.make_group("b", "a", turn_cap=0)
        groups.make_group("c", "a", head_cap=9999, heft=100)
        groups.make_group("d", "c", unit_cap=0)
        self.assertEqual(groups.rows(), [
            ("a", "yard", 7, 5, 6, 8, False), ("b", "a", 1, None, None, 0, False),
            ("c", "a", 100, None, 9999, None, False), ("d", "c", 1, 0, None, None, False), YARD])

    def test_rising_by_name_whenever_made(self):
        groups = Groups()
        for name in ["zoo", "b", "abc", "yarda", "ab", "a"]:
            groups.make_group(name, "yard")
        self.assertEqual([row[0] for row in groups.rows()], ["a", "ab", "abc", "b", "yard", "yarda", "zoo"])

    def test_limits_within_may_be_above_those_around(self):
        groups = Groups()
        groups.make_group("a", "yard", unit_cap=1, head_cap=1, turn_cap=1)
        groups.make_group("b", "a", unit_cap=9, head_cap=9, turn_cap=9)
        self.assertEqual(groups.rows()[1], ("b", "a", 1, 9, 9, 9, False))

    def test_bounds_are_taken(self):
        groups = Groups()
        for at, heft in enumerate([1, 2, 99, 100]):
            groups.make_group("h" + "abcd"[at], "yard", heft=heft)
        for at, cap in enumerate([None, 0, 1, 9998, 9999]):
            groups.make_group("c" + "abcde"[at], "yard", unit_cap=cap, head_cap=cap, turn_cap=cap)
        self.assertEqual(len(groups.rows()), 10)

    def test_deep_groups(self):
        groups = Groups()
        outer = "yard"
        for at in range(2000):
            name = "".join("abcdefghij"[int(figure)] for figure in str(at))
            groups.make_group(name, outer)
            outer = name
        groups.admit(outer, heads=1, units=2)
        self.assertEqual(groups.charges("yard"), (2, 1))
        groups.freeze("a")
        self.assertEqual(groups.outermost_frozen(outer), "a")

    def test_rows_are_new_each_time(self):
        groups = some_groups()
        told = groups.rows()
        before = list(told)
        told.clear()
        self.assertEqual(groups.rows(), before)
        self.assertIsNot(groups.rows(), groups.rows())


class TestMadeRefused(Case):
    def test_no_name(self):
        groups = some_groups()
        for name in NO_NAMES:
            self.refused(groups, NoName, groups.make_group, name, "yard")
            self.refused(groups, NoName, groups.make_group, name, "none", heft=0, unit_cap=-1)

    def test_no_group(self):
        groups = some_groups()
        for inner in NO_GROUPS:
            self.refused(groups, NoGroup, groups.make_group, "new", inner)
            self.refused(groups, NoGroup, groups.make_group, "a", inner, heft=0, turn_cap=-1)
        self.refused(groups, NoGroup, groups.make_group, "new", "new")

    def test_no_weight(self):
        groups = some_groups()
        for heft in NO_HEFTS:
            refuses(self, NoNumber, check_heft, heft)
            self.refused(groups, NoNumber, groups.make_group, "new", "yard", heft=heft)
            self.refused(groups, NoNumber, groups.make_group, "a", "yard", heft=heft)

    def test_no_limits(self):
        groups = some_groups()
        for cap in NO_CAPS:
            for kind in CAPS:
                self.refused(groups, NoNumber, groups.make_group, "new", "yard", **{kind: cap})
                self.refused(groups, NoNumber, groups.make_group, "a", "yard", **{kind: cap})

    def test_taken(self):
        groups = some_groups()
        for name in ["a", "b", "c", "d", "e", "yard"]:
            for inner in ["yard", "a", "c"]:
                self.refused(groups, Taken, groups.make_group, name, inner, heft=3)


class TestCaps(Case):
    def test_new_limits_take_the_place_of_all_old_ones(self):
        groups = Groups()
        groups.make_group("a", "yard", heft=4, unit_cap=5, head_cap=6, turn_cap=7)
        self.assertIsNone(groups.set_caps("a", unit_cap=1))
        self.assertEqual(groups.rows()[0], ("a", "yard", 4, 1, None, None, False))
        groups.set_caps("a", head_cap=2, turn_cap=3)
        self.assertEqual(groups.rows()[0], ("a", "yard", 4, None, 2, 3, False))
        groups.set_caps("a")
        self.assertEqual(groups.rows()[0], ("a", "yard", 4, None, None, None, False))

    def test_of_yard(self):
        groups = some_groups()
        groups.set_caps("yard", unit_cap=1, head_cap=2, turn_cap=9999)
        self.assertEqual(groups.rows()[-1], ("yard", None, 1, 1, 2, 9999, False))

    def test_just_what_is_there(self):
        groups = some_groups()
        groups.admit("b", heads=2, units=3)
        groups.admit("c", heads=1, units=4)
        for name in ["b", "a", "yard"]:
            groups.set_caps(name, unit_cap=7, head_cap=3, turn_cap=0)
        groups.set_caps("c", unit_cap=4, head_cap=1)
        groups.set_caps("d", unit_cap=0, head_cap=0)

    def test_no_group(self):
        groups = some_groups()
        for name in NO_GROUPS:
            self.refused(groups, NoGroup, groups.set_caps, name)
            self.refused(groups, NoGroup, groups.set_caps, name, unit_cap=-1)

    def test_no_number(self):
        groups = some_groups()
        groups.admit("a", heads=2, units=2)
        for cap in NO_CAPS:
            for kind in CAPS:
                self.refused(groups, NoNumber, groups.set_caps, "a", **{kind: cap})
            self.refused(groups, NoNumber, groups.set_caps, "a", unit_cap=1, head_cap=cap)
            self.refused(groups, NoNumber, groups.set_caps, "a", unit_cap=1, head_cap=1, turn_cap=cap)

    def test_over_of_units_then_of_processes(self):
        groups = some_groups()
        groups.admit("b", heads=2, units=30)
        groups.admit("c", heads=1, units=4)
        for name in ["b", "a", "yard"]:
            for cap in [0, 1, 33]:
                self.assertEqual(self.refused(groups, Over, groups.set_caps, name, unit_cap=cap).many, 34)
                self.assertEqual(self.refused(groups, Over, groups.set_caps, name, unit_cap=cap, head_cap=0).many, 34)
            for cap in [0, 2]:
                self.assertEqual(self.refused(groups, Over, groups.set_caps, name, head_cap=cap).many, 3)
                self.assertEqual(self.refused(groups, Over, groups.set_caps, name, unit_cap=34, head_cap=cap).many, 3)
        self.assertEqual(self.refused(groups, Over, groups.set_caps, "c", unit_cap=3).many, 4)
        self.assertEqual(self.refused(groups, Over, groups.set_caps, "c", unit_cap=4, head_cap=0).many, 1)


class TestRemoved(Case):
    def test_it_is_no_more(self):
        groups = some_groups()
        self.assertIsNone(groups.remove_group("c"))
        self.assertEqual([row[0] for row in groups.rows()], ["a", "b", "d", "e", "yard"])
        refuses(self, NoGroup, groups.charges, "c")
        groups.make_group("c", "d")
        self.assertEqual(groups.rows()[2], ("c", "d", 1, None, None, None, False))

    def test_a_new_one_of_the_name_has_nothing_of_the_old(self):
        groups = Groups()
        groups.make_group("a", "yard", heft=3, unit_cap=4, head_cap=4, turn_cap=4)
        groups.freeze("a")
        groups.remove_group("a")
        groups.make_group("a", "yard")
        self.assertEqual(groups.rows(), [("a", "yard", 1, None, None, None, False), YARD])

    def test_no_group(self):
        groups = some_groups()
        for name in NO_GROUPS + ["yard"]:
            self.refused(groups, NoGroup, groups.remove_group, name)
        groups.remove_group("e")
        self.refused(groups, NoGroup, groups.remove_group, "e")

    def test_yard_is_refused_even_with_nothing_in_it(self):
        groups = Groups()
        self.refused(groups, NoGroup, groups.remove_group, "yard")

    def test_held_by_a_group(self):
        groups = some_groups()
        for name in ["a", "b", "d"]:
            self.refused(groups, Held, groups.remove_group, name)
        for name in ["c", "b", "a", "e", "d"]:
            groups.remove_group(name)
        self.assertEqual(groups.rows(), [YARD])

    def test_held_by_a_process(self):
        groups = some_groups()
        groups.admit("c", heads=1)
        self.refused(groups, Held, groups.remove_group, "c")
        groups.release("c", heads=1)
        groups.remove_group("c")


class TestFrozen(Case):
    def test_told_is_how_many_processes(self):
        groups = some_groups()
        for name, heads in [("yard", 1), ("a", 2), ("b", 3), ("c", 4), ("e", 5)]:
            groups.admit(name, heads=heads, units=9)
        self.assertEqual([groups.freeze(name) for name in "abcde"], [9, 7, 4, 5, 5])
        self.assertEqual([groups.thaw(name) for name in "abcde"], [9, 7, 4, 5, 5])
        self.assertEqual(some_groups().freeze("a"), 0)

    def test_frozen_itself_is_told_of_that_group_alone(self):
        groups = some_groups()
        groups.freeze("b")
        self.assertEqual([row[6] for row in groups.rows()], [False, True, False, False, False, False])

    def test_frozen_as_long_as_one_in_which_it_lies_is(self):
        groups = some_groups()
        groups.freeze("b")
        told = [groups.outermost_frozen(name) for name in ["a", "b", "c", "d", "e", "yard"]]
        self.assertEqual(told, [None, "b", "b", None, None, None])
        groups.thaw("b")
        self.assertEqual([groups.outermost_frozen(name) for name in "abcde"], [None] * 5)

    def test_the_outermost_one_is_told(self):
        groups = some_groups()
        for name, told in [("c", "c"), ("a", "a"), ("b", "a")]:
            groups.freeze(name)
            self.assertEqual(groups.outermost_frozen("c"), told)
        groups.thaw("a")
        self.assertEqual([groups.outermost_frozen(name) for name in "abc"], [None, "b", "b"])
        groups.thaw("b")
        self.assertEqual([groups.outermost_frozen(name) for name in "abc"], [None, None, "c"])
        groups.thaw("c")
        self.assertEqual([groups.outermost_frozen(name) for name in "abc"], [None, None, None])

    def test_frozen_bears_the_outermost_one(self):
        groups = some_groups()
        for name in ["c", "b", "a"]:
            groups.freeze(name)
            for inner in "abcde"["abc".index(name):3]:
                self.assertEqual(refuses(self, Frozen, groups.check_thawed, inner).group, name)
        for name in ["d", "e", "yard"]:
            self.assertIsNone(groups.check_thawed(name))

    def test_a_group_made_in_a_frozen_one_is_frozen(self):
        groups = some_groups()
        groups.freeze("a")
        groups.make_group("new", "c")
        self.assertEqual(groups.outermost_frozen("new"), "a")
        self.assertIs(groups.rows()[5][6], False)

    def test_itself(self):
        groups = some_groups()
        self.refused(groups, Itself, groups.thaw, "b")
        groups.freeze("b")
        self.refused(groups, Itself, groups.freeze, "b")
        self.refused(groups, Itself, groups.thaw, "a")
        self.refused(groups, Itself, groups.thaw, "c")
        groups.freeze("c")
        groups.freeze("a")
        groups.thaw("b")
        self.refused(groups, Itself, groups.thaw, "b")

    def test_no_group(self):
        groups = some_groups()
        for name in NO_GROUPS + ["yard"]:
            self.refused(groups, NoGroup, groups.freeze, name)
            self.refused(groups, NoGroup, groups.thaw, name)

    def test_frozen_and_thawed_all_is_as_it_was(self):
        groups = some_groups()
        groups.admit("c", heads=2, units=5)
        before = seen(groups)
        for name in "abcde":
            groups.freeze(name)
            groups.thaw(name)
            self.assertEqual(seen(groups), before)


class TestCharges(Case):
    def test_those_within_count(self):
        groups = some_groups()
        for name, heads, units in [("yard", 1, 0), ("a", 2, 10), ("b", 3, 200), ("c", 4, 3000), ("e", 5, 7)]:
            self.assertIsNone(groups.admit(name, heads=heads, units=units))
        told = [groups.charges(name) for name in ["c", "b", "a", "e", "d", "yard"]]
        self.assertEqual(told, [(3000, 4), (3200, 7), (3210, 9), (7, 5), (7, 5), (3217, 15)])

    def test_released(self):
        groups = some_groups()
        groups.admit("c", heads=4, units=9)
        groups.admit("a", heads=1, units=1)
        self.assertIsNone(groups.release("c", heads=1, units=2))
        groups.release("c", units=3)
        groups.release("c", heads=1)
        self.assertEqual([groups.charges(name) for name in ["c", "b", "a", "d", "yard"]], [
            (4, 2), (4, 2), (5, 3), (0, 0), (5, 3)])

    def test_transferred(self):
        groups = some_groups()
        groups.admit("c", heads=4, units=9)
        self.assertIsNone(groups.transfer("c", "e", heads=1, units=2))
        groups.transfer("c", "a", heads=2, units=3)
        told = [groups.charges(name) for name in ["c", "b", "a", "e", "d", "yard"]]
        self.assertEqual(told, [(4, 1), (4, 1), (7, 3), (2, 1), (2, 1), (9, 4)])

    def test_no_group(self):
        groups = some_groups()
        for name in NO_TEXTS + ["", "other", "Yard"]:
            self.refused(groups, NoGroup, groups.charges, name)
            self.refused(groups, NoGroup, groups.outermost_frozen, name)
            self.refused(groups, NoGroup, groups.admit, name, heads=1)
            self.refused(groups, NoGroup, groups.transfer, "a", name, heads=1, units=0)


class TestCapped(Case):
    def test_of_the_group_itself(self):
        groups = some_groups()
        groups.set_caps("c", head_cap=2, unit_cap=5)
        groups.admit("c", heads=2, units=5)
        self.assertEqual(self.refused(groups, Capped, groups.admit, "c", heads=1).group, "c")
        self.assertEqual(self.refused(groups, Capped, groups.admit, "c", units=1).group, "c")
        groups.admit("b", heads=1, units=1)

    def test_of_one_in_which_it_lies(self):
        groups = some_groups()
        groups.set_caps("a", head_cap=3, unit_cap=7)
        groups.admit("a", heads=1, units=2)
        groups.admit("c", heads=1, units=2)
        for name in ["a", "b", "c"]:
            self.assertEqual(self.refused(groups, Capped, groups.admit, name, heads=2).group, "a")
            self.assertEqual(self.refused(groups, Capped, groups.admit, name, units=4).group, "a")
        groups.admit("b", heads=1, units=3)
        groups.admit("e", heads=9, units=9)

    def test_of_yard(self):
        groups = some_groups()
        groups.set_caps("yard", head_cap=1, unit_cap=0)
        groups.admit("c", heads=1)
        for name in ["yard", "e"]:
            self.assertEqual(self.refused(groups, Capped, groups.admit, name, heads=1).group, "yard")
            self.assertEqual(self.refused(groups, Capped, groups.admit, name, units=1).group, "yard")

    def test_the_innermost_one_is_told(self):
        groups = some_groups()
        for name in ["yard", "a", "b", "c"]:
            groups.set_caps(name, head_cap=0, unit_cap=0)
        for name in ["c", "b", "a", "yard"]:
            self.assertEqual(self.refused(groups, Capped, groups.admit, name, heads=1).group, name)
            self.assertEqual(self.refused(groups, Capped, groups.admit, name, units=1).group, name)
            groups.set_caps(name)

    def test_processes_come_ahead_of_units(self):
        groups = some_groups()
        groups.set_caps("c", unit_cap=0)
        groups.set_caps("a", head_cap=0)
        self.assertEqual(self.refused(groups, Capped, groups.check_space, "c", heads=1, units=1).group, "a")
        self.assertEqual(self.refused(groups, Capped, groups.check_space, "c", units=1).group, "c")
        self.assertIsNone(groups.check_space("c"))

    def test_space_is_asked_without_a_change(self):
        groups = some_groups()
        before = seen(groups)
        groups.check_space("c", heads=5, units=7)
        self.assertEqual(seen(groups), before)

    def test_far_limits(self):
        groups = Groups()
        groups.make_group("a", "yard", unit_cap=9999, head_cap=9999)
        groups.admit("a", heads=9999, units=9999)
        self.assertEqual(self.refused(groups, Capped, groups.admit, "a", heads=1).group, "a")
        self.assertEqual(self.refused(groups, Capped, groups.admit, "a", units=1).group, "a")

    def test_what_is_entered_anew_is_asked_alone(self):
        groups = some_groups()
        groups.admit("c", heads=2, units=5)
        groups.set_caps("yard", head_cap=2, unit_cap=5)
        groups.set_caps("a", head_cap=2, unit_cap=5)
        for old, new in [("c", "b"), ("b", "a"), ("a", "c"), ("c", "e"), ("e", "yard")]:
            groups.transfer(old, new, heads=1, units=5)
        self.assertEqual(groups.charges("yard"), (5, 2))

    def test_the_innermost_one_that_is_entered_is_told(self):
        groups = some_groups()
        groups.admit("e", heads=2, units=5)
        for name in ["a", "b", "c"]:
            groups.set_caps(name, head_cap=1, unit_cap=4)
        for name in ["c", "b", "a"]:
            self.assertEqual(self.refused(groups, Capped, groups.transfer, "e", name, heads=2, units=5).group, name)
            self.assertEqual(self.refused(groups, Capped, groups.transfer, "e", name, heads=1, units=5).group, name)
            groups.set_caps(name)
        groups.transfer("e", "c", heads=2, units=5)

    def test_processes_come_ahead_of_units_when_transferred(self):
        groups = some_groups()
        groups.admit("e", heads=1, units=5)
        groups.set_caps("c", unit_cap=4)
        groups.set_caps("a", head_cap=0)
        self.assertEqual(self.refused(groups, Capped, groups.transfer, "e", "c", heads=1, units=5).group, "a")
        groups.set_caps("a")
        self.assertEqual(self.refused(groups, Capped, groups.transfer, "e", "c", heads=1, units=5).group, "c")


class TestTurns(Case):
    def test_no_more_than_the_limit(self):
        groups = some_groups()
        groups.set_caps("a", turn_cap=5)
        told = [groups.limit_turns("a", turns) for turns in [0, 1, 4, 5, 6, 9999]]
        self.assertEqual(told, [0, 1, 4, 5, 5, 5])
        groups.set_caps("a", turn_cap=0)
        self.assertEqual([groups.limit_turns("a", turns) for turns in [0, 1, 9]], [0, 0, 0])

    def test_all_without_a_limit(self):
        groups = some_groups()
        groups.set_caps("a", unit_cap=1, head_cap=1)
        for name in ["a", "yard"]:
            self.assertEqual([groups.limit_turns(name, turns) for turns in [0, 7, 99999]], [0, 7, 99999])

    def test_none_while_frozen_itself(self):
        groups = some_groups()
        groups.set_caps("a", turn_cap=5)
        groups.freeze("a")
        self.assertEqual(groups.limit_turns("a", 9), 0)
        groups.thaw("a")
        self.assertEqual(groups.limit_turns("a", 9), 5)


class Naive:
    """Groups as their points tell them, reckoned anew from all processes each time."""

    def __init__(self):
        self.rows = {"yard": [None, 1, None, None, None, False]}
        self.held = []

    def ways(self, name):
        found = []
        while name is not None:
            found.append(name)
            name = self.rows[name][0]
        return found

    def charges(self, name):
        inside = [units for group, units in self.held if name in self.ways(group)]
        return sum(inside), len(inside)

    def capped(self, names, heads, units):
        for cap, many, at in [(3, heads, 1), (2, units, 0)]:
            for name in names:
                limit = self.rows[name][cap]
                if limit is not None and self.charges(name)[at] + many > limit:
                    return name
        return None


class TestHistories(Case):
    """[0.2] (b) at every moment of many histories, and the naive reckoning beside it."""

    def told_group(self, do, *things, **named):
        try:
            do(*things, **named)
        except Capped as error:
            return error.group
        return None

    def come(self, groups, naive, source):
        name = source.choice(list(naive.rows))
        due = naive.capped(naive.ways(name), 1, 0)
        self.assertEqual(self.told_group(groups.admit, name, heads=1), due)
        if due is None:
            naive.held.append([name, 0])

    def grow(self, groups, naive, source):
        if naive.held:
            one, many = source.choice(naive.held), source.randint(1, 9)
            due = naive.capped(naive.ways(one[0]), 0, many)
            self.assertEqual(self.told_group(groups.admit, one[0], units=many), due)
            if due is None:
                one[1] += many

    def go(self, groups, naive, source):
        if naive.held:
            name, units = naive.held.pop(source.randrange(len(naive.held)))
            groups.release(name, heads=1, units=units)

    def move(self, groups, naive, source):
        if naive.held:
            one, name = source.choice(naive.held), source.choice(list(naive.rows))
            if one[0] != name:
                entered = [group for group in naive.ways(name) if group not in naive.ways(one[0])]
                due = naive.capped(entered, 1, one[1])
                self.assertEqual(self.told_group(groups.transfer, one[0], name, heads=1, units=one[1]), due)
                if due is None:
                    one[0] = name

    def cap(self, groups, naive, source):
        name = source.choice(list(naive.rows))
        units, heads = source.choice([None, source.randint(0, 40)]), source.choice([None, source.randint(0, 9)])
        has = naive.charges(name)
        due = [many for many, limit in zip(has, (units, heads)) if limit is not None and many > limit]
        try:
            groups.set_caps(name, unit_cap=units, head_cap=heads)
            self.assertEqual(due, [])
            naive.rows[name][2:5] = [units, heads, None]
        except Over as error:
            self.assertEqual(error.many, due[0])

    def make(self, groups, naive, source):
        name, inner = source.choice("abcdef"), source.choice(list(naive.rows))
        try:
            groups.make_group(name, inner, heft=3, turn_cap=4)
            self.assertNotIn(name, naive.rows)
            naive.rows[name] = [inner, 3, None, None, 4, False]
        except Taken:
            self.assertIn(name, naive.rows)

    def remove(self, groups, naive, source):
        name = source.choice(list(naive.rows))
        if name != "yard":
            held = naive.charges(name)[1] > 0 or name in [row[0] for row in naive.rows.values()]
            try:
                groups.remove_group(name)
                self.assertFalse(held)
                del naive.rows[name]
            except Held:
                self.assertTrue(held)

    def chill(self, groups, naive, source):
        name = source.choice(list(naive.rows))
        if name != "yard":
            row = naive.rows[name]
            do = groups.thaw if row[5] else groups.freeze
            self.assertEqual(do(name), naive.charges(name)[1])
            row[5] = not row[5]

    def agree(self, groups, naive):
        self.assertEqual(groups.rows(), sorted((name, *row) for name, row in naive.rows.items()))
        for name, row in naive.rows.items():
            units, heads = groups.charges(name)
            self.assertEqual((units, heads), naive.charges(name))
            self.assertTrue(row[2] is None or units <= row[2])
            self.assertTrue(row[3] is None or heads <= row[3])
            frozen = [group for group in naive.ways(name) if naive.rows[group][5]]
            self.assertEqual(groups.outermost_frozen(name), frozen[-1] if frozen else None)

    def test_many_histories(self):
        deeds = [self.come] * 4 + [self.grow] * 4 + [self.move] * 3 + [
            self.go, self.cap, self.cap, self.make, self.make, self.remove, self.chill]
        for seed in range(40):
            source = random.Random(seed)
            groups, naive = Groups(), Naive()
            for at in range(150):
                source.choice(deeds)(groups, naive, source)
                self.agree(groups, naive)


if __name__ == "__main__":
    unittest.main()

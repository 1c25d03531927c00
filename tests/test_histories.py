"""Deeds of yards, and yards played again: [9.1], [9.2], and [0.2] (i)."""

import inspect
import unittest

from cellyard.errors import CellError, NoDeeds, NoPicture, NoProcess
from cellyard.histories import deeds_of, replayed, twin, undone
from cellyard.world import Yard
from helper import FAR_WHOLES, NO_WHOLES, YardCase, nested, refuses, watched

LAYERS = (((("a",), "one"), (("b", "c"), "two")), ((("b", "c"), None),))
PICTURE = (
    5, (9, 6, None), True, ((("a",), "one"),), ((None, 4, 1), (0, 2, 2)), ((((), False),),), ((("b", "t"),),), (
        (0, ((0, 1),), 0, 0, 1, 0, 0, (0, 1), False, 0), (1, ((0, 2), (1, 1)), 0, 0, 7, 6, 5, (1, 3), False, 0),
        (1, ((0, 3),), None, None, 2, 0, 0, (0, 1), True, 255)))
# Deeds of each kind, none of which is refused.
DEEDS = [
    ("group", "g", "yard", 2, 50, 9, 8), ("caps", "g", None, 8, None), ("group", "h", "g", 1, None, None, None),
    ("ungroup", "h"), ("spawn", 1, ()), ("spawn", 2, ("boxes", "numbers")), ("move", 2, "g"), ("freeze", "g"),
    ("thaw", "g"), ("spawn", 2, ()), ("strike", 2, 4), ("finish", 3, 255), ("wait", 2), ("want", 2, 9), ("heft", 2, 100),
    ("grow", 2, 5), ("shrink", 2, 1), ("tick", 7), ("store", "s", LAYERS), ("store", "t", ()), ("unstore", "t"),
    ("mount", 2, ("m",), "s", False), ("mount", 2, (), "s", True), ("unmount", 2, ()), ("write", 2, ("m", "d"), "3"),
    ("erase", 2, ("m", "a")), ("post", 2, "b", "t"), ("post", 2, "c", None), ("cell", "x", LAYERS, 3, 4, 5, 6),
    ("restore", "y", PICTURE), ("uncell", "x"),
]


class TestInterface(unittest.TestCase):
    def test_functions_and_their_arguments(self):
        for function in [deeds_of, replayed, twin, undone]:
            self.assertEqual(len(inspect.signature(function).parameters), 1)


class TestDeedsOf(YardCase):
    def test_of_a_new_yard(self):
        self.assertEqual(deeds_of(self.yard), [])

    def test_just_those_that_were_not_refused(self):
        yard = self.yard
        yard.spawn(1)
        for do, things in [(yard.spawn, (9,)), (yard.freeze, ("yard",)), (yard.wait, (1,)), (yard.tick, (-1,)),
                           (yard.picture, ("x",)), (yard.restore, ("x", None)), (yard.finish, (1,))]:
            self.assertRaises(CellError, do, *things)
        yard.tick(5)
        self.assertEqual(deeds_of(yard), [("spawn", 1, ()), ("tick", 5)])

    def test_a_list_of_its_own(self):
        self.yard.spawn(1)
        told = deeds_of(self.yard)
        told.append(("tick", 5))
        told[0] = None
        self.assertEqual(deeds_of(self.yard), [("spawn", 1, ())])
        self.assertIsNot(deeds_of(self.yard), deeds_of(self.yard))

    def test_what_is_handed_in_or_stands_as_default(self):
        yard = self.yard
        yard.open_cell("x", LAYERS, turn_cap=3)
        yard.spawn(2, fresh=("mounts", "numbers"))
        yard.mount(2, ("m",), "x")
        yard.finish(3)
        self.assertEqual(repr(deeds_of(yard)), repr([
            ("cell", "x", LAYERS, 1, None, None, 3), ("spawn", 2, ("mounts", "numbers")),
            ("mount", 2, ("m",), "x", False), ("finish", 3, 0)]))


class TestReplayed(unittest.TestCase):
    def test_all_kinds_of_deeds(self):
        self.assertEqual(len({deed[0] for deed in DEEDS}), 25)
        handed_in = list(DEEDS)
        yard = replayed(handed_in)
        self.assertEqual(handed_in, DEEDS)
        self.assertIsInstance(yard, Yard)
        self.assertEqual(repr(deeds_of(yard)), repr(DEEDS))
        self.assertEqual(watched(replayed(deeds_of(yard))), watched(yard))
        self.assertTrue(replayed(deeds_of(yard)) == yard)

    def test_the_list_is_not_kept(self):
        handed_in = list(DEEDS)
        yard = replayed(handed_in)
        handed_in.clear()
        self.assertEqual(deeds_of(yard), DEEDS)
        yard.tick(1)
        self.assertEqual(handed_in, [])

    def test_none(self):
        self.assertTrue(replayed([]) == Yard())

    def test_what_is_no_list(self):
        for thing in NO_WHOLES + FAR_WHOLES + [0, 1, tuple(DEEDS), DEEDS[0], "tick 5", Yard()]:
            if thing != []:
                refuses(self, NoDeeds, replayed, thing)

    def test_what_is_no_deed(self):
        for thing in NO_WHOLES + [0, 1, "tick", ["tick", 5], (), ("tick",), ("tick", 5, 5), ("tock", 5), ("Tick", 5),
                                  (("tick", 5),), (5, "tick"), (None, 5), (["tick"], 5), nested(6, "tick")]:
            refuses(self, NoDeeds, replayed, [thing])
            refuses(self, NoDeeds, replayed, [("tick", 5), thing])
            refuses(self, NoDeeds, replayed, [thing, ("tick", 5)])

    def test_another_word_and_another_length(self):
        for at, deed in enumerate(DEEDS):
            for wrong in [deed[:-1], deed + (None,), deed + (0,), (deed[0] + "s",) + deed[1:], ("",) + deed[1:], deed[1:],
                          list(deed), (deed,)]:
                refuses(self, NoDeeds, replayed, DEEDS[:at] + [wrong] + DEEDS[at + 1:])

    def test_another_kind_of_part(self):
        for at, deed in enumerate(DEEDS):
            for place in range(1, len(deed)):
                for part in [-1, 5.0, "", "A", [], [1], {}, b"a", nested(7), 10 ** 5000, (None,), ([],)]:
                    wrong = deed[:place] + (part,) + deed[place + 1:]
                    refuses(self, NoDeeds, replayed, DEEDS[:at] + [wrong] + DEEDS[at + 1:])

    def test_a_truth_for_a_whole_number(self):
        for at, deed in enumerate(DEEDS):
            for place, part in enumerate(deed):
                if isinstance(part, int):
                    others = [True, False] if not isinstance(part, bool) else [0, 1]
                    for other in others:
                        wrong = deed[:place] + (other,) + deed[place + 1:]
                        refuses(self, NoDeeds, replayed, DEEDS[:at] + [wrong])

    def test_a_deed_that_would_be_refused_then(self):
        refuses(self, NoDeeds, replayed, DEEDS[1:])
        refuses(self, NoDeeds, replayed, DEEDS + [DEEDS[0]])
        refuses(self, NoDeeds, replayed, [DEEDS[5], DEEDS[4]])
        refuses(self, NoDeeds, replayed, [("finish", 1, 0)])
        refuses(self, NoDeeds, replayed, [("freeze", "yard")])
        refuses(self, NoDeeds, replayed, [("spawn", 1, ()), ("shrink", 2, 1)])
        refuses(self, NoDeeds, replayed, [("restore", "x", PICTURE[:7])])
        refuses(self, NoDeeds, replayed, [("caps", "yard", None, 0, None)])
        refuses(self, NoDeeds, replayed, [("caps", "yard", None, 1, None), ("cell", "x", (), 1, None, None, None)])


class TestTwin(YardCase):
    def test_equal_and_apart(self):
        yard = replayed(DEEDS)
        before = watched(yard)
        other = twin(yard)
        self.assertIsNot(other, yard)
        self.assertTrue(other == yard)
        self.assertEqual(watched(other), before)
        other.spawn(1)
        other.write(1, ("m", "e"), "new")
        other.post(1, "b", "new")
        other.unmount(1, ("m",))
        other.close_cell("y")
        self.assertEqual(watched(yard), before)
        after = watched(other)
        yard.tick(9)
        yard.thaw("y")
        self.assertEqual(watched(other), after)

    def test_of_a_new_yard(self):
        self.assertTrue(twin(self.yard) == Yard())

    def test_what_was_refused_leaves_no_trace(self):
        self.assertRaises(NoProcess, self.yard.spawn, 2)
        self.assertRaises(NoPicture, self.yard.restore, "x", ())
        self.assertEqual(watched(twin(self.yard)), watched(Yard()))


class TestUndone(YardCase):
    def test_all_but_the_last(self):
        for many in range(1, len(DEEDS) + 1):
            yard = replayed(DEEDS[:many])
            before = watched(yard)
            self.assertEqual(watched(undone(yard)), watched(replayed(DEEDS[:many - 1])))
            self.assertEqual(watched(yard), before)

    def test_back_to_the_start(self):
        yard = replayed(DEEDS)
        for many in range(len(DEEDS)):
            yard = undone(yard)
        self.assertTrue(yard == Yard())
        refuses(self, NoDeeds, undone, yard)

    def test_where_none_was_done(self):
        self.refused(NoDeeds, undone, self.yard)
        self.assertRaises(NoProcess, self.yard.spawn, 2)
        self.refused(NoDeeds, undone, self.yard)

    def test_apart(self):
        yard = replayed(DEEDS)
        before = watched(yard)
        other = undone(yard)
        other.close_cell("y")
        other.grow(1, 9)
        self.assertEqual(watched(yard), before)


if __name__ == "__main__":
    unittest.main()

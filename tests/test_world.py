"""The class Yard: its methods under their names, with their arguments; the ends that the document names; [9.2]."""

import inspect
import unittest

from cellyard.errors import (
    Capped, Fixed, Frozen, Guarded, Held, Itself, NoCell, NoChild, NoFile, NoGroup, NoKinds, NoLayers, NoMount, NoName,
    NoNumber, NoPath, NoPicture, NoProcess, NoStore, NoSuch, NotClosed, NotYet, NoWords, Over, Taken, TooFew)
from cellyard.histories import deeds_of
from cellyard.watching import boxes, charges, files, groups, holdings, mounts, processes, read
from cellyard.world import Yard
from helper import FAR_WHOLES, NO_NAMES, NO_PATHS, NO_WHOLES, NO_WORDS, YardCase, nested, watched

LAYERS = (((("a",), "one"), (("b",), "two")),)
CAPS = {"unit_cap": None, "head_cap": None, "turn_cap": None}
# For each method: how many arguments go by place, which go by place and have a default, and which go by name alone.
METHODS = {
    "make_group": (2, {}, {"heft": 1, **CAPS}), "set_caps": (1, {}, CAPS), "remove_group": (1, {}, {}),
    "freeze": (1, {}, {}), "thaw": (1, {}, {}), "spawn": (1, {}, {"fresh": ()}), "move": (2, {}, {}),
    "finish": (1, {"outcome": 0}, {}), "strike": (2, {}, {}), "wait": (1, {}, {}), "set_want": (2, {}, {}),
    "set_heft": (2, {}, {}), "grow": (2, {}, {}), "shrink": (2, {}, {}), "tick": (1, {}, {}),
    "add_store": (2, {}, {}), "remove_store": (1, {}, {}), "mount": (3, {}, {"held_fast": False}),
    "unmount": (2, {}, {}), "write": (3, {}, {}), "erase": (2, {}, {}), "post": (3, {}, {}),
    "open_cell": (2, {}, {"heft": 1, **CAPS}), "close_cell": (1, {}, {}), "picture": (1, {}, {}),
    "restore": (2, {}, {}),
}
NO_OWNS = NO_WHOLES + FAR_WHOLES + [0, -1, 99]
NO_HEFTS = NO_WHOLES + FAR_WHOLES + [0, -1, 101]
NO_CAPS = [thing for thing in NO_WHOLES if thing is not None] + FAR_WHOLES + [-1, 10000]
NO_KINDS = ["", "boxes", [], ["boxes"], ("box",), ("boxes", "boxes"), (1,), None, True, 5, (("boxes",),), nested(6, "boxes")]
NO_LAYERS = [None, True, 0, "", [], ([],), (None,), ((((), "x"),),), (((("a",), ""),),), ((),) * 5, nested(6, "a")]


class TestInterface(unittest.TestCase):
    def test_methods_and_their_arguments(self):
        for name, (many, with_default, by_name) in METHODS.items():
            parameters = list(inspect.signature(getattr(Yard(), name)).parameters.values())
            by_place = [each for each in parameters if each.kind == each.POSITIONAL_OR_KEYWORD]
            self.assertEqual(len([each for each in by_place if each.default is each.empty]), many, name)
            self.assertEqual({each.name: each.default for each in by_place[many:]}, with_default, name)
            named = {each.name: each.default for each in parameters if each.kind == each.KEYWORD_ONLY}
            self.assertEqual(repr(named), repr(by_name), name)

    def test_what_goes_by_name_alone(self):
        yard = Yard()
        for do, things in [
                (yard.make_group, ("g", "yard", 1)), (yard.set_caps, ("yard", 5)), (yard.spawn, (1, ())),
                (yard.mount, (1, (), "s", True)), (yard.open_cell, ("x", (), 1))]:
            self.assertRaises(TypeError, do, *things)
        self.assertEqual(deeds_of(yard), [])


class TestEachDeed(YardCase):
    def test_told_and_kept(self):
        yard = self.yard
        for told, expected, deed in self.each():
            self.assertEqual(told, expected, deed)
            self.assertEqual(repr(deeds_of(yard)[-1]), repr(deed))
        self.assertEqual(len(deeds_of(yard)), 43)

    def each(self):
        yard = self.yard
        yield yard.make_group("g", "yard"), None, ("group", "g", "yard", 1, None, None, None)
        yield yard.make_group("h", "g", turn_cap=8, head_cap=7, unit_cap=60, heft=5), None, (
            "group", "h", "g", 5, 60, 7, 8)
        yield yard.set_caps("h"), None, ("caps", "h", None, None, None)
        yield yard.set_caps("h", turn_cap=4), None, ("caps", "h", None, None, 4)
        yield yard.set_caps("h", head_cap=4), None, ("caps", "h", None, 4, None)
        yield yard.set_caps("h", unit_cap=40), None, ("caps", "h", 40, None, None)
        yield yard.spawn(1), 2, ("spawn", 1, ())
        yield yard.spawn(1, fresh=("boxes", "numbers")), 3, ("spawn", 1, ("boxes", "numbers"))
        yield yard.move(2, "h"), None, ("move", 2, "h")
        yield yard.freeze("g"), 1, ("freeze", "g")
        yield yard.thaw("g"), 1, ("thaw", "g")
        yield yard.spawn(2, fresh=("numbers",)), 4, ("spawn", 2, ("numbers",))
        yield yard.spawn(2), 5, ("spawn", 2, ())
        yield yard.spawn(2), 6, ("spawn", 2, ())
        yield yard.finish(4), 1, ("finish", 4, 0)
        yield yard.finish(5, 7), 1, ("finish", 5, 7)
        yield yard.strike(2, 6), 1, ("strike", 2, 6)
        yield yard.wait(2), (4, 0), ("wait", 2)
        yield yard.wait(2), (5, 7), ("wait", 2)
        yield yard.wait(2), (6, 9), ("wait", 2)
        yield yard.spawn(2), 7, ("spawn", 2, ())
        yield yard.finish(7, outcome=255), 1, ("finish", 7, 255)
        yield yard.set_want(2, 9), None, ("want", 2, 9)
        yield yard.set_heft(2, 4), None, ("heft", 2, 4)
        yield yard.grow(2, 30), 30, ("grow", 2, 30)
        yield yard.shrink(2, 10), 20, ("shrink", 2, 10)
        yield yard.tick(5), [(2, (5, 1))], ("tick", 5)
        yield yard.add_store("s", LAYERS), 2, ("store", "s", LAYERS)
        yield yard.add_store("t", ()), 0, ("store", "t", ())
        yield yard.remove_store("t"), None, ("unstore", "t")
        yield yard.mount(2, ("m",), "s"), None, ("mount", 2, ("m",), "s", False)
        yield yard.mount(2, ("n",), "s", held_fast=True), None, ("mount", 2, ("n",), "s", True)
        yield yard.unmount(2, ("n",)), None, ("unmount", 2, ("n",))
        yield yard.write(2, ("m", "c"), "three"), None, ("write", 2, ("m", "c"), "three")
        yield yard.erase(2, ("m", "a")), None, ("erase", 2, ("m", "a"))
        yield yard.post(2, "b", "text"), None, ("post", 2, "b", "text")
        yield yard.post(2, "b", None), None, ("post", 2, "b", None)
        yield yard.open_cell("x", ()), 8, ("cell", "x", (), 1, None, None, None)
        yield yard.open_cell("y", LAYERS, turn_cap=1, head_cap=2, unit_cap=3, heft=4), 9, (
            "cell", "y", LAYERS, 4, 3, 2, 1)
        yield yard.restore("z", yard.picture("y")), 10, ("restore", "z", yard.picture("y"))
        yield yard.close_cell("y"), 1, ("uncell", "y")
        yard.make_group("k", "g")
        yield yard.remove_group("k"), None, ("ungroup", "k")

    def test_pictures_are_no_deeds(self):
        self.yard.open_cell("x", ())
        before = deeds_of(self.yard)
        self.assertEqual(self.yard.picture("x"), self.yard.picture("x"))
        self.assertEqual(deeds_of(self.yard), before)


class TestEqual(unittest.TestCase):
    def test_by_the_deeds_in_their_order(self):
        one, other = Yard(), Yard()
        self.assertTrue(one == other)
        self.assertFalse(one != other)
        one.spawn(1)
        self.assertFalse(one == other)
        other.spawn(1)
        self.assertTrue(one == other)
        one.make_group("a", "yard")
        one.make_group("b", "yard")
        other.make_group("b", "yard")
        other.make_group("a", "yard")
        self.assertEqual(groups(one), groups(other))
        self.assertFalse(one == other)

    def test_what_is_undone_by_another_deed_was_done(self):
        one, other = Yard(), Yard()
        one.make_group("a", "yard")
        one.remove_group("a")
        self.assertFalse(one == other)

    def test_what_is_refused_was_not_done(self):
        one, other = Yard(), Yard()
        self.assertRaises(NoGroup, one.remove_group, "a")
        self.assertTrue(one == other)

    def test_with_no_other_thing(self):
        yard = Yard()
        for thing in NO_WHOLES + FAR_WHOLES + [1, "Yard(1, 1, 0)", [], deeds_of(yard), yard.ground, Yard]:
            self.assertFalse(yard == thing)
            self.assertFalse(thing == yard)
            self.assertTrue(yard != thing)


class TestShown(unittest.TestCase):
    def test_repr_and_len(self):
        yard = Yard()
        self.assertEqual((repr(yard), len(yard)), ("Yard(1, 1, 0)", 1))
        yard.spawn(1)
        yard.spawn(2)
        yard.make_group("g", "yard")
        yard.add_store("s", ())
        yard.add_store("t", ())
        self.assertEqual((repr(yard), str(yard), len(yard)), ("Yard(3, 2, 2)", "Yard(3, 2, 2)", 3))
        yard.finish(3)
        self.assertEqual((repr(yard), len(yard)), ("Yard(3, 2, 2)", 2))
        yard.wait(2)
        self.assertEqual((repr(yard), len(yard)), ("Yard(2, 2, 2)", 2))
        yard.open_cell("x", ())
        self.assertEqual((repr(yard), len(yard)), ("Yard(3, 3, 3)", 3))
        yard.close_cell("x")
        self.assertEqual((repr(yard), len(yard)), ("Yard(2, 2, 2)", 2))

    def test_of_many(self):
        yard = Yard()
        for many in range(11):
            yard.spawn(1)
        self.assertEqual(repr(yard), "Yard(12, 1, 0)")


class TestEnds(YardCase):
    def test_names(self):
        yard = self.yard
        for name in ["a", "z", "abcdef", "zzzzzz"]:
            yard.make_group(name, "yard")
            yard.add_store(name, ())
            yard.post(1, name, "t")
            yard.mount(1, (name,), name)
        for name in ["abcdefg", "", "a1"]:
            self.refused(NoName, yard.make_group, name, "yard")
            self.refused(NoName, yard.add_store, name, ())
            self.refused(NoName, yard.open_cell, name, ())
            self.refused(NoName, yard.post, 1, name, "t")
            self.refused(NoName, yard.restore, name, None)
            self.refused(NoPath, yard.mount, 1, (name,), "a")

    def test_limits(self):
        yard = self.yard
        for cap in [0, 1, 9998, 9999]:
            yard.make_group("abcd"[len(groups(yard)) - 1], "yard", unit_cap=cap, head_cap=cap, turn_cap=cap)
        for cap in [-1, 10000]:
            for kind in CAPS:
                self.refused(NoNumber, yard.make_group, "x", "yard", **{kind: cap})
                self.refused(NoNumber, yard.set_caps, "a", **{kind: cap})
                self.refused(NoNumber, yard.open_cell, "x", (), **{kind: cap})
        self.assertIsNone(yard.set_caps("yard", unit_cap=0, head_cap=1, turn_cap=0))
        self.assertEqual(self.refused(Over, yard.set_caps, "yard", head_cap=0).many, 1)
        self.assertEqual(self.refused(Capped, yard.grow, 1, 1).group, "yard")
        self.assertEqual(self.refused(Capped, yard.spawn, 1).group, "yard")
        yard.set_caps("yard", unit_cap=9999)
        for many in range(10):
            yard.grow(1, 999)
        self.assertEqual(yard.grow(1, 9), 9999)
        self.assertEqual(self.refused(Capped, yard.grow, 1, 1).group, "yard")

    def test_weights(self):
        yard = self.yard
        yard.make_group("a", "yard", heft=1)
        yard.make_group("b", "yard", heft=100)
        yard.open_cell("x", (), heft=100)
        for heft in [1, 100]:
            yard.set_heft(1, heft)
            self.assertEqual(holdings(yard, 1)[0], heft)
        for heft in [0, 101]:
            self.refused(NoNumber, yard.make_group, "c", "yard", heft=heft)
            self.refused(NoNumber, yard.open_cell, "y", (), heft=heft)
            self.refused(NoNumber, yard.set_heft, 1, heft)

    def test_outcomes(self):
        yard = self.yard
        yard.spawn(1)
        for own, outcome in [(3, 0), (4, 255)]:
            yard.spawn(2)
            yard.finish(own, outcome)
            self.assertEqual(yard.wait(2), (own, outcome))
        for outcome in [-1, 256]:
            self.refused(NoNumber, yard.finish, 2, outcome)

    def test_paths(self):
        yard = self.yard
        yard.add_store("s", (((("a", "b", "c", "d"), "t"),),))
        yard.mount(1, (), "s")
        yard.mount(1, ("a", "b", "c", "e"), "s")
        self.assertEqual(read(yard, 1, ("a", "b", "c", "d")), "t")
        yard.write(1, ("a", "b", "c", "e"), "u")
        self.assertEqual(files(yard, "s"), [(("a", "b", "c", "d"), "t"), (("a", "b", "c", "e"), "u")])
        self.refused(NoPath, yard.mount, 1, ("a",) * 5, "s")
        self.refused(NoPath, yard.write, 1, ("a",) * 5, "t")
        self.refused(NoPath, read, yard, 1, ("a",) * 5)
        self.refused(NoMount, yard.write, 1, (), "t")
        self.refused(NoMount, read, yard, 1, ())
        self.refused(NoLayers, yard.add_store, "t", ((((), "t"),),))
        self.refused(NoLayers, yard.add_store, "t", (((("a",) * 5, "t"),),))

    def test_texts(self):
        yard = self.yard
        yard.add_store("s", (((("a",), "z" * 20),),))
        yard.mount(1, (), "s")
        yard.write(1, ("b",), "0" * 20)
        yard.write(1, ("c",), "9")
        yard.post(1, "b", "z9" * 10)
        for text in ["", "z" * 21]:
            self.refused(NoWords, yard.write, 1, ("b",), text)
            self.refused(NoWords, yard.post, 1, "b", text)
            self.refused(NoLayers, yard.add_store, "t", (((("a",), text),),))

    def test_layers(self):
        yard = self.yard
        layer = tuple(((name,), "t") for name in "abcdefghijkl")
        self.assertEqual(yard.add_store("s", (layer,) * 4), 12)
        self.refused(NoLayers, yard.add_store, "t", (layer,) * 5)
        self.refused(NoLayers, yard.add_store, "t", (layer + ((("m",), "t"),),))
        self.refused(NoLayers, yard.open_cell, "t", (layer + layer[:1],))

    def test_units_wants_and_ticks(self):
        yard = self.yard
        self.assertEqual([yard.grow(1, 999), yard.grow(1, 1), yard.shrink(1, 999), yard.shrink(1, 1)], [999, 1000, 1, 0])
        for many in [0, 1000]:
            self.refused(NoNumber, yard.grow, 1, many)
            self.refused(NoNumber, yard.shrink, 1, many)
        yard.set_want(1, 999)
        self.assertEqual([yard.tick(0), yard.tick(9999)], [[], [(1, (999, 1))]])
        yard.set_want(1, 0)
        self.assertEqual(yard.tick(9999), [])
        self.refused(NoNumber, yard.set_want, 1, -1)
        self.refused(NoNumber, yard.set_want, 1, 1000)
        self.refused(NoNumber, yard.tick, -1)
        self.refused(NoNumber, yard.tick, 10000)

    def test_kinds(self):
        self.assertEqual(self.yard.spawn(1, fresh=("boxes", "mounts", "numbers")), 2)
        self.refused(NoKinds, self.yard.spawn, 1, fresh=("boxes", "mounts", "numbers", "boxes"))


class TestAnyThing(YardCase):
    """[0.3]: any thing at each place of which a refusal is told, refused by the one that is named first."""

    def setUp(self):
        YardCase.setUp(self)
        yard = self.yard
        yard.make_group("g", "yard")
        yard.spawn(1)
        yard.add_store("s", LAYERS)
        yard.mount(1, ("m",), "s", held_fast=True)
        yard.open_cell("x", LAYERS)
        self.before = watched(yard)

    def all_refused(self, error, do, things, *rest, ahead=(), **named):
        for thing in things:
            with self.assertRaises(error) as taken:
                do(*ahead, thing, *rest, **named)
            self.assertIs(taken.exception.__class__, error)

    def tearDown(self):
        self.assertEqual(watched(self.yard), self.before)

    def test_processes(self):
        yard = self.yard
        for do, rest, named in [
                (yard.spawn, (), {"fresh": 1}), (yard.move, (1,), {}), (yard.finish, (-1,), {}), (yard.strike, (0,), {}),
                (yard.wait, (), {}), (yard.set_want, (-1,), {}), (yard.set_heft, (0,), {}), (yard.grow, (0,), {}),
                (yard.shrink, (0,), {}), (yard.mount, (1, 1), {"held_fast": 1}), (yard.unmount, (1,), {}),
                (yard.write, (1, 1), {}), (yard.erase, (1,), {}), (yard.post, (1, 1), {})]:
            self.all_refused(NoProcess, do, NO_OWNS, *rest, **named)

    def test_groups(self):
        yard = self.yard
        no_groups = NO_NAMES + ["none"]
        self.all_refused(NoGroup, yard.make_group, no_groups, ahead=("a",), heft=0)
        self.all_refused(NoGroup, yard.set_caps, no_groups, unit_cap=-1)
        for do in [yard.remove_group, yard.freeze, yard.thaw]:
            self.all_refused(NoGroup, do, no_groups + ["yard"])
        self.all_refused(NoGroup, yard.move, no_groups, ahead=(1,))
        self.all_refused(Guarded, yard.move, ["yard", "g"], ahead=(1,))
        self.all_refused(Itself, yard.move, ["yard"], ahead=(2,))
        self.all_refused(Itself, yard.thaw, ["g"])
        self.all_refused(Held, yard.remove_group, ["x"])

    def test_names(self):
        yard = self.yard
        self.all_refused(NoName, yard.make_group, NO_NAMES, None, heft=0)
        self.all_refused(NoName, yard.add_store, NO_NAMES, None)
        self.all_refused(NoName, yard.open_cell, NO_NAMES, None, heft=0)
        self.all_refused(NoName, yard.restore, NO_NAMES, None)
        self.all_refused(NoName, yard.post, NO_NAMES, 5, ahead=(1,))
        self.all_refused(Taken, yard.make_group, ["g", "x", "yard"], "yard")
        self.all_refused(Taken, yard.add_store, ["s", "x"], ())
        self.all_refused(Taken, yard.open_cell, ["g", "s", "x", "yard"], ())

    def test_stores_and_cells(self):
        yard = self.yard
        no_stores = NO_NAMES + ["none", "g", "yard"]
        self.all_refused(NoStore, yard.remove_store, no_stores)
        self.all_refused(NoStore, yard.mount, no_stores, ahead=(1, ("m",)), held_fast=1)
        self.all_refused(Held, yard.remove_store, ["s", "x"])
        no_cells = NO_NAMES + ["none", "g", "s", "yard"]
        self.all_refused(NoCell, yard.close_cell, no_cells)
        self.all_refused(NoCell, yard.picture, no_cells)

    def test_numbers(self):
        yard = self.yard
        for kind in CAPS:
            for cap in NO_CAPS:
                self.assertRaises(NoNumber, yard.make_group, "g", "yard", **{kind: cap})
                self.assertRaises(NoNumber, yard.set_caps, "yard", **{kind: cap})
                self.assertRaises(NoNumber, yard.open_cell, "g", (), **{kind: cap})
        for heft in NO_HEFTS:
            self.assertRaises(NoNumber, yard.make_group, "g", "yard", heft=heft)
            self.assertRaises(NoNumber, yard.open_cell, "g", (), heft=heft)
        self.all_refused(NoNumber, yard.set_heft, NO_HEFTS, ahead=(1,))
        self.all_refused(NoNumber, yard.finish, NO_WHOLES + FAR_WHOLES + [-1, 256], ahead=(1,))
        self.all_refused(NoSuch, yard.strike, NO_WHOLES + FAR_WHOLES + [-1, 0, 4], ahead=(1,))
        self.all_refused(NoNumber, yard.set_want, NO_WHOLES + FAR_WHOLES + [-1, 1000], ahead=(1,))
        self.all_refused(NoNumber, yard.grow, NO_WHOLES + FAR_WHOLES + [-1, 0, 1000], ahead=(1,))
        self.all_refused(NoNumber, yard.shrink, NO_WHOLES + FAR_WHOLES + [-1, 0, 1000], ahead=(1,))
        self.all_refused(TooFew, yard.shrink, [1, 999], ahead=(1,))
        self.all_refused(NoNumber, yard.tick, NO_WHOLES + FAR_WHOLES + [-1, 10000])
        for thing in [None, 0, 1, "", "yes", [], (), (True,), [False], nested(6)]:
            self.assertRaises(NoNumber, yard.mount, 1, ("m",), "s", held_fast=thing)

    def test_kinds_layers_paths_and_texts(self):
        yard = self.yard
        for thing in NO_KINDS:
            self.assertRaises(NoKinds, yard.spawn, 1, fresh=thing)
        self.all_refused(NoLayers, yard.add_store, NO_LAYERS, ahead=("s",))
        self.all_refused(NoLayers, yard.open_cell, NO_LAYERS, ahead=("x",), heft=0)
        self.all_refused(NoPath, yard.mount, NO_PATHS, None, ahead=(1,), held_fast=1)
        self.all_refused(NoPath, yard.unmount, NO_PATHS, ahead=(1,))
        self.all_refused(NoPath, yard.write, NO_PATHS, None, ahead=(1,))
        self.all_refused(NoPath, yard.erase, NO_PATHS, ahead=(1,))
        self.all_refused(NoMount, yard.unmount, [(), ("n",)], ahead=(1,))
        self.all_refused(NoMount, yard.write, [(), ("m",), ("n", "m")], None, ahead=(1,))
        self.all_refused(NoMount, yard.erase, [(), ("m",), ("n", "m")], ahead=(1,))
        self.all_refused(NoWords, yard.write, NO_WORDS + [None], ahead=(1, ("m", "a")))
        self.all_refused(NoWords, yard.post, NO_WORDS, ahead=(1, "a"))
        self.all_refused(Fixed, yard.write, ["t"], ahead=(1, ("m", "a")))
        self.all_refused(Fixed, yard.erase, [("m", "a"), ("m", "z")], ahead=(1,))
        self.all_refused(NoFile, yard.erase, [("z",), ("a", "b")], ahead=(3,))

    def test_pictures(self):
        self.all_refused(NoPicture, self.yard.restore, NO_WHOLES + FAR_WHOLES + NO_PATHS + [1, "a"], ahead=("g",))
        self.all_refused(Taken, self.yard.restore, [self.yard.picture("x")], ahead=("g",))

    def test_waiting(self):
        self.all_refused(NotYet, self.yard.wait, [1])
        self.all_refused(NoChild, self.yard.wait, [2, 3])


class TestFrozenAndClosed(YardCase):
    def test_frozen(self):
        yard = self.yard
        yard.make_group("a", "yard")
        yard.make_group("b", "a")
        yard.spawn(1)
        yard.move(2, "b")
        yard.freeze("b")
        self.assertEqual(self.refused(Frozen, yard.spawn, 2).group, "b")
        yard.freeze("a")
        self.assertEqual(self.refused(Frozen, yard.spawn, 2, fresh=5).group, "a")
        self.assertIsNone(yard.set_heft(2, 5))
        self.assertIsNone(yard.move(2, "yard"))
        self.assertEqual(yard.spawn(2), 3)

    def test_a_cell_goes_elsewhere(self):
        yard, other = self.yard, Yard()
        yard.open_cell("x", LAYERS, head_cap=5)
        yard.spawn(2, fresh=("numbers",))
        yard.post(3, "b", "t")
        yard.freeze("x")
        picture = yard.picture("x")
        self.assertEqual(yard.close_cell("x"), 2)
        other.spawn(1)
        self.assertEqual(other.restore("y", picture), 3)
        self.assertEqual(other.picture("y"), picture)
        self.refused(NoCell, yard.picture, "x")
        other.thaw("y")
        self.assertEqual(boxes(other, 4), [("b", "t")])
        self.assertEqual(mounts(other, 4), [((), "y", False)])
        self.assertEqual((processes(other), charges(other, "y")), ([1, 2, 3, 4], (0, 2)))
        other.move(4, "yard")
        self.assertRaises(NotClosed, other.picture, "y")


if __name__ == "__main__":
    unittest.main()

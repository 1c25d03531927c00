"""Layers: [2.1], and what [0.3] says of them."""

import copy
import random
import unittest

from cellyard.errors import NoLayers, NoName, NoPath
from cellyard.layers import are_words, check_name, check_path, flat, is_name, is_path
from helper import FAR_WHOLES, NO_NAMES, NO_PATHS, NO_TEXTS, NO_WORDS, nested, refuses

LETTERS = "abcdefghijklmnopqrstuvwxyz"
FIGURES = "0123456789"
SOME = (
    ((("etc", "conf"), "one"), (("bin",), "two"), (("lib", "a"), "three")),
    ((("bin",), None), (("etc", "conf"), "four")),
)


class TestNames(unittest.TestCase):
    def test_names(self):
        for name in list(LETTERS) + ["ab", "abc", "abcd", "abcde", "abcdef", "uvwxyz", "zzzzzz", "yard"]:
            self.assertIs(is_name(name), True, name)
            self.assertIsNone(check_name(name))

    def test_what_is_no_name(self):
        for thing in NO_NAMES:
            self.assertIs(is_name(thing), False)
            refuses(self, NoName, check_name, thing)


class TestWords(unittest.TestCase):
    def test_words(self):
        for text in list(LETTERS + FIGURES) + [LETTERS[:20], LETTERS[6:], FIGURES, "a1" * 10, "0" * 20, "007"]:
            self.assertIs(are_words(text), True, text)

    def test_what_are_no_words(self):
        for thing in NO_WORDS + [None]:
            self.assertIs(are_words(thing), False)


class TestPaths(unittest.TestCase):
    def test_paths(self):
        for path in [(), ("a",), ("a", "b"), ("a", "a", "a"), ("abcdef",) * 4, ("z", "y", "x", "w")]:
            self.assertIs(is_path(path), True, path)
            self.assertIsNone(check_path(path))

    def test_what_is_no_path(self):
        for thing in NO_PATHS:
            self.assertIs(is_path(thing), False)
            refuses(self, NoPath, check_path, thing)


class TestFlat(unittest.TestCase):
    def test_no_layers(self):
        self.assertEqual(flat(()), [])

    def test_empty_layers(self):
        for many in [1, 2, 3, 4]:
            self.assertEqual(flat(((),) * many), [])

    def test_one_layer(self):
        self.assertEqual(flat((((("a",), "x"),),)), [(("a",), "x")])
        self.assertEqual(flat((SOME[0],)), [(("bin",), "two"), (("etc", "conf"), "one"), (("lib", "a"), "three")])

    def test_two_layers(self):
        self.assertEqual(flat(SOME), [(("etc", "conf"), "four"), (("lib", "a"), "three")])
        self.assertEqual(flat(SOME[::-1]), flat((SOME[0],)))

    def test_four_layers(self):
        layers = tuple(((("f", LETTERS[at]), "t" + str(at)), (("all",), str(at))) for at in range(4))
        self.assertEqual(flat(layers), [(("all",), "3")] + [(("f", LETTERS[at]), "t" + str(at)) for at in range(4)])

    def test_empty_layers_between_others(self):
        one, two = SOME
        for layers in [((), one, two), (one, (), two), (one, two, ()), ((), one, (), two), (one, (), (), two)]:
            self.assertEqual(flat(layers), flat(SOME))

    def test_twelve_files_in_a_layer(self):
        layer = tuple(((LETTERS[11 - at],), str(at)) for at in range(12))
        self.assertEqual(flat((layer,)), [((LETTERS[at],), str(11 - at)) for at in range(12)])

    def test_twelve_files_in_each_of_four_layers(self):
        layers = tuple(tuple((("l" + LETTERS[one], LETTERS[two]), "x") for two in range(12)) for one in range(4))
        told = flat(layers)
        self.assertEqual(len(told), 48)
        self.assertEqual(told, sorted(file for layer in layers for file in layer))

    def test_the_same_path_in_several_layers(self):
        path = ("a", "b")
        self.assertEqual(flat((((path, "x"),), ((path, "y"),))), [(path, "y")])
        self.assertEqual(flat((((path, "y"),), ((path, "x"),))), [(path, "x")])
        self.assertEqual(flat(tuple(((path, text),) for text in "zabc")), [(path, "c")])
        self.assertEqual(flat((((path, "x"),),) * 4), [(path, "x")])

    def test_files_that_are_taken_away(self):
        path, other = ("a",), ("b",)
        self.assertEqual(flat((((path, "x"),), ((path, None),))), [])
        self.assertEqual(flat((((path, "x"), (other, "y")), (), ((path, None),))), [(other, "y")])

    def test_taken_away_and_there_again(self):
        path = ("a",)
        layers = (((path, "x"),), ((path, None),), ((path, "y"),))
        self.assertEqual(flat(layers), [(path, "y")])
        self.assertEqual(flat(layers + (((path, None),),)), [])
        self.assertEqual(flat((((path, None),), ((path, "y"),))), [(path, "y")])

    def test_taken_away_without_having_been_there(self):
        path = ("a",)
        self.assertEqual(flat((((path, None),),)), [])
        self.assertEqual(flat((((path, None),),) * 4), [])
        self.assertEqual(flat((((path, None), (("b",), "x")),)), [(("b",), "x")])

    def test_a_file_that_is_taken_away_takes_none_below_it(self):
        layers = (((("a",), "x"), (("a", "b"), "y")), ((("a",), None),))
        self.assertEqual(flat(layers), [(("a", "b"), "y")])

    def test_paths_of_one_and_of_four_names_and_that_begin_another(self):
        paths = [("a",), ("a", "a"), ("a", "a", "a"), ("a", "a", "a", "a"), ("a", "b"), ("aa",), ("abcdef",) * 4, ("b",)]
        layer = tuple((path, "x") for path in reversed(paths))
        self.assertEqual(flat((layer,)), [(path, "x") for path in paths])

    def test_texts_of_one_and_of_twenty_signs(self):
        for text in ["a", "z", "0", "9", "a" * 20, "9" * 20, "a1" * 10, LETTERS[:20], LETTERS[6:], FIGURES * 2, "0"]:
            self.assertEqual(flat((((("a",), text),),)), [(("a",), text)])

    def test_names_of_one_and_of_six_letters(self):
        for name in list(LETTERS) + ["abcdef", "zzzzzz"]:
            self.assertEqual(flat((((("q", name), "x"),),)), [(("q", name), "x")])

    def test_what_is_told_is_plain(self):
        for path, text in flat(SOME):
            self.assertIs(path.__class__, tuple)
            self.assertIs(text.__class__, str)
        self.assertIs(flat(SOME).__class__, list)
        self.assertEqual({part.__class__ for part in flat(SOME)}, {tuple})


def some_layers():
    """Many layers, the same ones at each run."""
    source = random.Random(5)
    paths = [("a",), ("a", "b"), ("b",), ("b", "a", "a", "c"), ("ab",), ("c", "a"), ("abcdef",), ("d",)]
    for at in range(600):
        layers = []
        for layer in range(source.randint(0, 4)):
            chosen = source.sample(paths, source.randint(0, len(paths)))
            layers.append(tuple((path, source.choice([None, "x", "y", "1", "z" * 20])) for path in chosen))
        yield tuple(layers)


class TestManyLayers(unittest.TestCase):
    def test_rising_each_once_with_the_last_text(self):
        for layers in some_layers():
            told = flat(layers)
            self.assertTrue(all(one[0] < two[0] for one, two in zip(told, told[1:])), told)
            for path in {path for layer in layers for path, text in layer}:
                last = [text for layer in layers for other, text in layer if other == path][-1]
                self.assertEqual([text for other, text in told if other == path], [] if last is None else [last])
            self.assertLessEqual({path for path, text in told}, {path for layer in layers for path, text in layer})

    def test_asked_again_the_same_is_told(self):
        for layers in some_layers():
            self.assertEqual(flat(layers), flat(copy.deepcopy(layers)))


class TestRefusals(unittest.TestCase):
    """Every wrong thing is put at its place alone, beside good ones, and behind good layers."""

    def refuses(self, thing):
        refuses(self, NoLayers, flat, thing)

    def refuses_layer(self, layer):
        for layers in [(layer,), ((), layer), (layer, ()), SOME + (layer,), (layer,) + SOME, SOME + ((), layer)]:
            self.refuses(layers)

    def refuses_file(self, file):
        good = (("q",), "x")
        for layer in [(file,), (good, file), (file, good), tuple(((name,), "x") for name in LETTERS[:11]) + (file,)]:
            self.refuses_layer(layer)

    def test_things_of_other_kinds_in_place_of_the_layers(self):
        things = [
            None, True, False, 0, 1, 5, "", "a", "abcd", [], [()], [SOME[0]], list(SOME), {}, {(): ()}, b"", 1.5,
            nested(6), nested(7), nested(6, "a"), nested(7, ()), nested(3000), nested(3001),
        ]
        for thing in things + FAR_WHOLES:
            self.refuses(thing)

    def test_one_layer_or_one_file_in_place_of_the_layers(self):
        self.refuses(SOME[0])
        self.refuses((("a",), "x"))
        self.refuses(("a",))

    def test_things_of_other_kinds_in_place_of_a_layer(self):
        for layer in NO_TEXTS + ["", "a", "ab", "abc"]:
            if layer != ():
                self.refuses_layer(layer)
        self.refuses_layer(list(SOME[0]))
        self.refuses_layer([])

    def test_things_of_other_kinds_in_place_of_a_file(self):
        for file in NO_TEXTS + ["", "a", "ab", nested(5, "a"), ["a", "x"], [("a",), "x"], {("a",): "x", ("b",): "y"}]:
            self.refuses_file(file)

    def test_tuples_of_other_lengths_in_place_of_a_file(self):
        for file in [(), (("a",),), (("a",), "x", "y"), (("a",), "x", None), (("a",), "x") * 2, ("x",)]:
            self.refuses_file(file)

    def test_text_ahead_of_the_path(self):
        self.refuses_file(("x", ("a",)))

    def test_what_is_no_path(self):
        for path in NO_PATHS:
            for text in ["x", None]:
                self.refuses_layer(((path, text),))
            self.refuses_layer(((("q",), "x"), (path, "x")))
        for path in ["a", ["a"], ("a",) * 5, ("a", "B")]:
            self.refuses_file((path, "x"))

    def test_the_empty_path(self):
        self.refuses_file(((), "x"))
        self.refuses_file(((), None))

    def test_what_is_no_name(self):
        for name in NO_NAMES:
            for path in [(name,), (name, "a"), ("a", name), ("a", "a", "a", name)]:
                self.refuses(((((path), "x"),),))

    def test_what_is_no_text(self):
        for text in NO_WORDS:
            self.refuses_file((("a",), text))

    def test_five_layers(self):
        self.refuses(((),) * 5)
        self.refuses(SOME + SOME + ((),))
        self.refuses(((),) * 500)

    def test_thirteen_files_in_a_layer(self):
        for text in ["x", None]:
            self.refuses_layer(tuple(((name,), text) for name in LETTERS[:13]))
        self.refuses_layer(tuple(((name,), "x") for name in LETTERS))

    def test_equal_paths_in_a_layer(self):
        for path in [("a",), ("a", "b"), ("a", "b", "c", "d")]:
            for one, two in [("x", "x"), ("x", "y"), ("x", None), (None, "x"), (None, None)]:
                self.refuses_layer(((path, one), (path, two)))
                self.refuses_layer(((path, one), (("q",), "x"), (path, two)))

    def test_things_nested_six_deep(self):
        for depth in range(4, 9):
            for innermost in ["a", 1, None, True, (), []]:
                self.refuses(nested(depth, innermost))
                thing = innermost
                for at in range(depth):
                    thing = (thing,)
                self.refuses(thing)
        self.refuses((((((("a",),), "x"),),),))

    def test_what_is_at_the_bounds_is_taken(self):
        layer = tuple((("abcdef", "abcdef", "abcdef", "abcde" + name), "a1" * 10) for name in LETTERS[:12])
        self.assertEqual(flat((layer,) * 4), sorted(layer))

    def test_nothing_is_kept_of_what_was_refused(self):
        before = flat(SOME)
        self.refuses(SOME + ((("a", "x"),),))
        self.assertEqual(flat(SOME), before)


class TestLists(unittest.TestCase):
    def test_each_told_list_is_a_new_one(self):
        for layers in [SOME, (), ((),), (SOME[0],)]:
            one, other = flat(layers), flat(layers)
            self.assertEqual(one, other)
            self.assertIsNot(one, other)

    def test_changing_what_is_told_changes_nothing_told_later(self):
        for layers in [SOME, (), ((),), (SOME[0],)]:
            told = flat(layers)
            before = list(told)
            told.append((("a",), "x"))
            told[0] = None
            self.assertEqual(flat(layers), before)

    def test_what_is_handed_in_stays_as_it_was(self):
        layers = copy.deepcopy(SOME)
        flat(layers)
        self.assertEqual(layers, SOME)
        wrong = [[[["a"], "x"], [["b"], None]], []]
        refuses(self, NoLayers, flat, wrong)
        self.assertEqual(wrong, [[[["a"], "x"], [["b"], None]], []])


if __name__ == "__main__":
    unittest.main()

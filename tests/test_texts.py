"""Texts of yards, written and read: [10.1], and [0.2] (j)."""

import inspect
import re
import unittest

from cellyard.errors import NoDeeds, NoText
from cellyard.histories import deeds_of, replayed
from cellyard.texts import read_yard, yard_text
from cellyard.world import Yard
from helper import FAR_WHOLES, NO_WHOLES, nested, refuses, watched
from test_histories import DEEDS

TEXT = """group 'g 'yard 2 50 9 8
caps 'g - 8 -
group 'h 'g 1 - - -
ungroup 'h
spawn 1 ()
spawn 2 ('boxes,'numbers)
move 2 'g
freeze 'g
thaw 'g
spawn 2 ()
strike 2 4
finish 3 255
wait 2
want 2 9
heft 2 100
grow 2 5
shrink 2 1
tick 7
store 's (((('a),'one),(('b,'c),'two)),((('b,'c),-)))
store 't ()
unstore 't
mount 2 ('m) 's !
mount 2 () 's +
unmount 2 ()
write 2 ('m,'d) '3
erase 2 ('m,'a)
post 2 'b 't
post 2 'c -
cell 'x (((('a),'one),(('b,'c),'two)),((('b,'c),-))) 3 4 5 6
restore 'y (5,(9,6,-),+,((('a),'one)),((-,4,1),(0,2,2)),((((),!))),((('b,'t))),((0,((0,1)),0,0,1,0,0,(0,1),!,0),\
(1,((0,2),(1,1)),0,0,7,6,5,(1,3),!,0),(1,((0,3)),-,-,2,0,0,(0,1),+,255)))
uncell 'x
"""
SIGNS = " \n'-+!(),0129abmyz\tA\"."


def written(part):
    """A part of a deed as the document has it."""
    if isinstance(part, tuple):
        return "(" + ",".join(map(written, part)) + ")"
    if isinstance(part, str):
        return "'" + part
    return {None: "-", True: "+", False: "!"}[part] if part is None or isinstance(part, bool) else str(part)


def text_of(deeds):
    return "".join(" ".join([deed[0], *map(written, deed[1:])]) + "\n" for deed in deeds)


def part_at(text, at):
    """The part that begins there, and where it ends; a ValueError where none does."""
    if text[at:at + 1] != "(":
        found = re.compile(r"[-+!]|0|[1-9][0-9]*|'[a-z0-9]*").match(text, at)
        if not found:
            raise ValueError
        sign = found.group()
        thing = {"-": None, "+": True, "!": False}[sign] if sign in "-+!" else sign[1:]
        return int(sign) if sign[0].isdigit() else thing, found.end()
    parts = []
    at += 1
    while text[at:at + 1] != ")":
        if parts:
            if text[at:at + 1] != ",":
                raise ValueError
            at += 1
        part, at = part_at(text, at)
        parts.append(part)
    return tuple(parts), at + 1


def deed_at(line):
    """The deed of a line, read strictly; a ValueError where it is none."""
    word, *texts = line.split(" ")
    parts = []
    for text in texts:
        part, end = part_at(text, 0)
        if end != len(text):
            raise ValueError
        parts.append(part)
    return (word, *parts)


def deeds_in(text):
    """The deeds of a text, read strictly, or None where it has no such form."""
    try:
        lines = text.split("\n")
        return [deed_at(line) for line in lines[:-1]] if lines[-1] == "" else None
    except ValueError:
        return None


def yard_in(text):
    """The yard of a text, read strictly, or None."""
    deeds = deeds_in(text)
    try:
        return None if deeds is None else replayed(deeds)
    except NoDeeds:
        return None


class TestWritten(unittest.TestCase):
    def test_functions_and_their_arguments(self):
        for function in [yard_text, read_yard]:
            self.assertEqual(len(inspect.signature(function).parameters), 1)

    def test_a_new_yard(self):
        self.assertEqual(yard_text(Yard()), "")

    def test_each_kind_of_deed(self):
        self.assertEqual(yard_text(replayed(DEEDS)), TEXT)
        self.assertEqual(text_of(DEEDS), TEXT)

    def test_each_kind_of_part(self):
        yard = Yard()
        yard.add_store("s", ((),))
        yard.add_store("t", ((), ((("a",), None),)))
        yard.add_store("u", (((("a", "b", "c", "d"), "0"), (("a",), "007")),))
        yard.mount(1, ("m", "n"), "s", held_fast=True)
        yard.mount(1, (), "s")
        yard.spawn(1, fresh=("mounts",))
        yard.set_caps("yard", unit_cap=0, turn_cap=9999)
        self.assertEqual(yard_text(yard), (
            "store 's (())\nstore 't ((),((('a),-)))\nstore 'u (((('a,'b,'c,'d),'0),(('a),'007)))\n"
            "mount 1 ('m,'n) 's +\nmount 1 () 's !\nspawn 1 ('mounts)\ncaps 'yard 0 - 9999\n"))

    def test_what_is_refused_is_not_written(self):
        yard = Yard()
        self.assertRaises(ValueError, yard.tick, -1)
        self.assertEqual(yard_text(yard), "")

    def test_writing_changes_nothing(self):
        yard = replayed(DEEDS)
        before = watched(yard)
        self.assertEqual(yard_text(yard), yard_text(yard))
        self.assertEqual(watched(yard), before)


class TestRead(unittest.TestCase):
    def test_read_back(self):
        for many in range(len(DEEDS) + 1):
            yard = replayed(DEEDS[:many])
            other = read_yard(yard_text(yard))
            self.assertIsInstance(other, Yard)
            self.assertTrue(other == yard)
            self.assertEqual(yard_text(other), yard_text(yard))
        self.assertEqual(watched(other), watched(yard))
        self.assertEqual(repr(deeds_of(other)), repr(DEEDS))

    def test_read_twice_they_are_apart(self):
        one, other = read_yard(TEXT), read_yard(TEXT)
        one.tick(5)
        self.assertTrue(other == replayed(DEEDS))

    def test_numbers_of_any_size(self):
        for many in [10 ** 17, 10 ** 18 - 1, 10 ** 18, 10 ** 18 + 5, 10 ** 36, 7 ** 300, 7 * 10 ** 5000 + 3]:
            yard = Yard()
            yard.restore("x", (1, (None,) * 3, False, (), ((None, many, 1),), ((),), ((),), (
                (0, ((0, 1),), 0, 0, 1, many, 0, (many, 1), False, 0),)))
            text = yard_text(yard)
            if many < 10 ** 4000:
                self.assertEqual(text, text_of(deeds_of(yard)))
            self.assertEqual(deeds_of(read_yard(text)), deeds_of(yard))
            refuses(self, NoText, read_yard, text.replace(",!,0)", ",!,00)"))

    def test_things_that_are_no_texts(self):
        for thing in NO_WHOLES + FAR_WHOLES + [0, 1, [TEXT], (TEXT,), b"tick 5\n", DEEDS, Yard(), nested(6, TEXT)]:
            if thing != "":
                refuses(self, NoText, read_yard, thing)

    def test_another_form(self):
        self.assertEqual(deeds_of(read_yard("tick 5\nspawn 1 ()\n")), [("tick", 5), ("spawn", 1, ())])
        for text in [
                "tick 5", "\n", " ", "tick 5\n\n", "\ntick 5\n", "tick  5\n", " tick 5\n", "tick 5 \n", "tick\t5\n", "tick\n",
                "tick 5\r\n", "tick 05\n", "tick +5\n", "tick -5\n", "tick 5.0\n", "tick 5_0\n", "tick '5\n", "tick (5)\n",
                "tick 5,\n", "tick ,5\n", "tick 5)\n", "tick (5\n", "tick 5 5\n", "'tick 5\n", "tick \u0665\n", "tick \u00b2\n",
                "spawn 1\n", "spawn 1 (\n", "spawn 1 )\n", "spawn 1 (,)\n", "spawn 1 ()()\n", "spawn 1 (())\n",
                "spawn 1 ( )\n", "spawn 1 'boxes\n", "spawn 1 (boxes)\n", "spawn 1 ('boxes,)\n", "spawn 1 (,'boxes)\n",
                "spawn 1 ('boxes 'mounts)\n", "spawn 1 ('boxes'mounts)\n", "spawn 1 ('boxes,,'mounts)\n",
                "spawn 1 ('boxes, 'mounts)\n", "spawn 1 (('boxes))\n", "spawn 1 ()1\n", "spawn 1() \n", "spawn 01 ()\n",
                "spawn + ()\n", "spawn - ()\n", "SPAWN 1 ()\n", "spawn 1 \"boxes\n", "spawn 1 [ ]\n", "freeze 'yard\n",
                "post 1 'a -\n ", "post 1 'a None\n", "post 1 'a --\n", "post 1 'a (-)\n", "post 1 a -\n", "post 1 ' -\n",
                "spawn 1 ()\ntick 5", "tick " + "9" * 5000 + "\n", "tick " + "0" * 5000 + "5\n", "tick 10000\n",
                "spawn 1 " + "(" * 50000 + ")" * 50000 + "\n", "spawn 1 " + "(" * 50000 + "\n", "(" * 50000]:
            refuses(self, NoText, read_yard, text)

    def test_lines_left_out_and_exchanged(self):
        lines = TEXT.splitlines(keepends=True)
        for at in range(len(lines)):
            self.check("".join(lines[:at] + lines[at + 1:]))
            self.check("".join(lines[:at] + lines[at:at + 1] + lines[at:]))
            for other in range(at):
                swapped = list(lines)
                swapped[at], swapped[other] = lines[other], lines[at]
                self.check("".join(swapped))
        refuses(self, NoText, read_yard, "".join(lines[1:]))
        refuses(self, NoText, read_yard, "".join([lines[1], lines[0]] + lines[2:]))

    def check(self, text):
        """The text is read just as a strict reading has it."""
        expected = yard_in(text)
        if expected is None:
            refuses(self, NoText, read_yard, text)
            return False
        self.assertTrue(read_yard(text) == expected, text)
        self.assertEqual(yard_text(expected), text)
        return True

    def test_one_sign_left_out_put_in_or_otherwise(self):
        told = []
        for at in range(len(TEXT)):
            told.append(self.check(TEXT[:at] + TEXT[at + 1:]))
        for at in range(0, len(TEXT), 3):
            for sign in SIGNS[at % 2::2]:
                told.append(self.check(TEXT[:at] + sign + TEXT[at:]))
                told.append(self.check(TEXT[:at] + sign + TEXT[at + 1:]))
        self.assertGreater(told.count(True), 100)
        self.assertGreater(told.count(False), 1000)


if __name__ == "__main__":
    unittest.main()

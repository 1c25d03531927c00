"""Whole histories of yards, held against a plain reckoning, and [0.2] (b) to (i) at every moment."""

import random
import unittest
from fractions import Fraction

from cellyard.deeds import do_deed
from cellyard.pictures import picture_of
from cellyard.yards import Ground
from drawing import WORDS, Drawer
from helper import chain, labelled, outcome_of, seen
from model import Model, as_pair

HISTORIES = 60
DEEDS = 130
ACTS = [
    "spawn", "finish", "strike", "wait", "want", "grow", "shrink", "mount", "unmount", "write", "erase", "post",
]
REFUSED = {
    "NoNumber", "NoName", "NoLayers", "NoPath", "NoWords", "NoKinds", "NoProcess", "NoGroup", "NoStore", "NoCell",
    "Taken", "Itself", "Frozen", "Capped", "Over", "TooFew", "Guarded", "NoSuch", "NoChild", "NotYet", "NoMount",
    "Fixed", "NoFile", "Held", "NoPicture",
}


def reckoned(model):
    """All that the model holds, in the same form."""
    people = model.people.values()
    numbers = labelled([0] + [room for person in people for room, number in person.ways])
    mounts = labelled([0] + [person.mounts for person in people if person.mounts is not None])
    boxes = labelled([0] + [person.boxes for person in people if person.boxes is not None])
    around = {0: None}
    for person in people:
        for (outer, one), (inner, two) in zip(person.ways, person.ways[1:]):
            around[inner] = numbers[outer]
    return {
        "groups": sorted((name, outer, heft, *caps, frozen) for name, (outer, heft, caps, frozen)
                         in model.groups.items()),
        "charges": {name: model.held(name) for name in model.groups},
        "people": {own: (
            person.elder, person.group, [(numbers[room], number) for room, number in person.ways],
            mounts.get(person.mounts), boxes.get(person.boxes), person.heft, person.units, person.want,
            as_pair(person.got), person.ended, person.outcome) for own, person in model.people.items()},
        "numbers": [(around[room], model.next_number[room]) for room in numbers],
        "mounts": [model.mounts[room] for room in mounts],
        "boxes": [model.boxes[room] for room in boxes],
        "rooms": (len(model.live_numbers()), len(model.live_mounts()), len(model.live_boxes())),
        "stores": model.stores,
        "cells": {name: own if model.goes(own) else None for name, own in model.cells.items()},
        "next": model.next_own,
    }


def read_by(ground, own):
    """All that the process reads, and what stands in its boxes."""
    paths = set()
    for path, name, held_fast in ground.rooms.mounts_of(own):
        paths |= {path + rest for rest, text in ground.stores.files_of(name) if len(path + rest) <= 4}
    files = []
    for path in sorted(paths):
        name, rest, held_fast = ground.rooms.spot_of(own, path)
        files.append((path, ground.stores.text_at(name, rest)))
    return files, ground.rooms.boxes_of(own)


def ties(ground, own):
    """The stores and rooms by which others may turn what the process reads."""
    seat = ground.rooms.seats[own]
    return {name for path, name, held_fast in ground.rooms.mounts_of(own)} | {seat.mounts, seat.boxes}


def told_of(ground, deed):
    """What the deed tells on the ground, or by which class it is refused."""
    return outcome_of(do_deed, ground, deed)


class TestHistories(unittest.TestCase):
    def histories(self, seeds):
        """Grounds that go along with models, and deeds for both; each is done by who walks them."""
        for seed in seeds:
            model, ground = Model(), Ground()
            drawer = Drawer(random.Random(seed), model)
            for many in range(DEEDS):
                deed = drawer.deed()
                yield ground, model, deed

    def moments(self, seeds):
        """The ground ahead of each deed that is not refused, and the deed; it is done when the next one is asked for."""
        for ground, model, deed in self.histories(seeds):
            done = outcome_of(model.do, deed)
            if done[0] == "told":
                yield ground, model, deed
                self.assertEqual(seen(ground), reckoned(model), deed)

    def test_against_the_reckoning(self):
        told = {}
        for ground, model, deed in self.histories(range(HISTORIES)):
            before = seen(ground)
            expected = outcome_of(model.do, deed)
            self.assertEqual(told_of(ground, deed), expected, deed)
            self.assertEqual(seen(ground), reckoned(model), deed)
            key = (deed[0],) + expected[:2 if expected[0] == "refused" else 1]
            told[key] = told.get(key, 0) + 1
            if expected[0] == "refused":
                self.assertEqual(seen(ground), before, deed)
            for name in list(model.cells) + ["a"]:
                pictured = outcome_of(model.picture, name)
                self.assertEqual(outcome_of(picture_of, ground, name), pictured)
                told[("picture", pictured[0])] = told.get(("picture", pictured[0]), 0) + 1
        # The rule has to draw enough of each kind to say something.
        for word in list(WORDS) + ["picture"]:
            self.assertGreater(told.get((word, "told"), 0), 9, word)
        self.assertLessEqual(REFUSED, {key[2] for key in told if len(key) == 3})

    def test_what_groups_hold(self):
        for ground, model, deed in self.moments(range(100, 120)):
            told = told_of(ground, deed)[1]
            shares = dict(told) if deed[0] == "tick" else {}
            for name, group in ground.groups.by_name.items():
                owns = [process.own for process in ground.processes.all_in(ground.groups.names_within(name))]
                units = sum(ground.processes.by_own[own].units for own in owns)
                self.assertEqual(ground.groups.charges(name), (units, len(owns)))
                for many, cap in [(units, group.unit_cap), (len(owns), group.head_cap)]:
                    self.assertTrue(cap is None or many <= cap)
                turns = sum(Fraction(*shares.get(own, (0, 1))) for own in owns)
                self.assertTrue(group.turn_cap is None or turns <= group.turn_cap)
                self.assertTrue(turns == 0 or not group.frozen)

    def test_numbers_and_elders(self):
        for ground, model, deed in self.moments(range(200, 220)):
            do_deed(ground, deed)
            rooms, processes = ground.rooms, ground.processes
            for room in rooms.rooms_of("numbers"):
                inside = [own for own in processes.by_own if room in chain(rooms.seats[own].numbers)]
                self.assertEqual(sorted(room.number_by_own), inside)
                self.assertEqual(sorted(room.own_by_number.values()), inside)
                self.assertTrue(all(1 <= number < room.coming for number in room.own_by_number))
            for own, process in processes.by_own.items():
                room = rooms.seats[own].numbers
                if own == 1:
                    self.assertIsNone(process.elder)
                    continue
                self.assertTrue(processes.goes(process.elder))
                around = room.outer if rooms.number_of(own) == 1 else room
                self.assertIs(rooms.seats[process.elder].numbers, around)
                self.assertFalse(process.has_ended and process.elder == 1)

    def test_what_others_turn(self):
        turned = 0
        for ground, model, deed in self.moments(range(300, 325)):
            before = {process.own: read_by(ground, process.own) for process in ground.processes.all_going()}
            tied = {own: ties(ground, own) for own in before}
            do_deed(ground, deed)
            for process in ground.processes.all_going():
                own = process.own
                if own in before and read_by(ground, own) != before[own]:
                    self.assertIn(deed[0], ["mount", "unmount", "write", "erase", "post"])
                    self.assertTrue(tied[own] & tied[deed[1]], deed)
                    turned += 1
        self.assertGreater(turned, 100)

    def test_frozen(self):
        frozen = 0
        for ground, model, deed in self.moments(range(400, 425)):
            still = [process.own for process in ground.processes.all_going()
                     if ground.groups.outermost_frozen(process.group) is not None]
            if deed[0] in ACTS:
                self.assertNotIn(deed[1], still)
            frozen += len(still)
            for name in [name for name in ground.groups.by_name if name != "yard"]:
                words = ("thaw", "freeze") if ground.groups.known(name).frozen else ("freeze", "thaw")
                before = seen(ground)
                one, two = [do_deed(ground, (word, name)) for word in words]
                self.assertEqual(one, two)
                self.assertEqual(seen(ground), before)
            told = do_deed(ground, deed)
            if deed[0] == "tick":
                self.assertEqual({own for own, share in told} & set(still), set())
        self.assertGreater(frozen, 200)

    def test_closed_cells(self):
        closed = 0
        for ground, model, deed in self.moments(range(500, 530)):
            inside = ground.groups.names_within(deed[1]) if deed[0] == "uncell" else []
            owns = [process.own for process in ground.processes.all_in(inside)]
            do_deed(ground, deed)
            self.assertFalse(set(inside) & set(ground.groups.by_name))
            self.assertFalse(set(owns) & set(ground.processes.by_own))
            if deed[0] == "uncell":
                closed += 1
                self.assertFalse(ground.stores.is_store(deed[1]) or ground.is_cell(deed[1]))
            for room in ground.rooms.rooms_of("numbers"):
                self.assertTrue(room.own_by_number)
            for process in ground.processes.all_ended():
                self.assertIsNone(ground.rooms.seats[process.own].mounts)
        self.assertGreater(closed, 10)

    def test_played_again(self):
        played = []
        last = None
        for ground, model, deed in self.histories(range(600, 615)):
            if ground != last:
                played.append((ground, []))
                last = ground
            outcome_of(model.do, deed)
            if told_of(ground, deed)[0] == "told":
                played[-1][1].append(deed)
        for ground, deeds in played:
            again = Ground()
            for deed in deeds:
                do_deed(again, deed)
            self.assertEqual(seen(again), seen(ground))
        self.assertEqual(len(played), 15)


if __name__ == "__main__":
    unittest.main()

"""Whole histories by the methods of yards, and what is told of them, held against a plain reckoning: [0.2], [0.3]."""

import random
import unittest
from fractions import Fraction

from cellyard import watching
from cellyard.histories import deeds_of, replayed, twin, undone
from cellyard.sharing import shares
from cellyard.texts import read_yard, yard_text
from cellyard.world import Yard
from drawing import Drawer
from helper import files_read, outcome_of, watched
from model import Model, as_pair

HISTORIES = 30
DEEDS = 110
CAPS = ("unit_cap", "head_cap", "turn_cap")
# For each word of a deed: the method, how many parts go by place, and the names of the others.
METHODS = {
    "group": ("make_group", 2, ("heft",) + CAPS), "caps": ("set_caps", 1, CAPS), "ungroup": ("remove_group", 1, ()),
    "move": ("move", 2, ()), "freeze": ("freeze", 1, ()), "thaw": ("thaw", 1, ()), "spawn": ("spawn", 1, ("fresh",)),
    "finish": ("finish", 2, ()), "strike": ("strike", 2, ()), "wait": ("wait", 1, ()), "want": ("set_want", 2, ()),
    "heft": ("set_heft", 2, ()), "grow": ("grow", 2, ()), "shrink": ("shrink", 2, ()), "tick": ("tick", 1, ()),
    "store": ("add_store", 2, ()), "unstore": ("remove_store", 1, ()), "mount": ("mount", 3, ("held_fast",)),
    "unmount": ("unmount", 2, ()), "write": ("write", 3, ()), "erase": ("erase", 2, ()), "post": ("post", 3, ()),
    "cell": ("open_cell", 2, ("heft",) + CAPS), "uncell": ("close_cell", 1, ()), "restore": ("restore", 2, ()),
}


def call(yard, deed):
    """Do the deed by the method of the yard."""
    method, many, names = METHODS[deed[0]]
    parts = deed[1:]
    return getattr(yard, method)(*parts[:many], **dict(zip(names, parts[many:])))


def read_in(model, own):
    """All files that the process may read, with what they bear."""
    found = {}
    person = model.people[own]
    for at, (name, held_fast) in model.mounts[person.mounts].items():
        for rest in model.stores[name]:
            if len(at + rest) <= 4:
                texts, path, held = model.spot(person, at + rest)
                found[at + rest] = texts.get(path)
    return found


def reckoned_of_one(model, own):
    """What is told of one process."""
    person = model.people[own]
    room = person.room()
    seen = sorted((each.number_in(room), each.elder) for each in model.people.values()
                  if not each.ended and each.number_in(room))
    numbers = {other: each.number_in(room) for other, each in model.people.items()}
    return {
        "elder_of": person.elder, "group_of": person.group, "number_of": person.number_in(room),
        "seen_by": [(number, numbers.get(elder) or 0) for number, elder in seen],
        "holdings": (person.heft, person.units, person.want, as_pair(person.got)),
        "is_frozen": bool(model.frozen(own)),
        "mounts": sorted((path, *pair) for path, pair in model.mounts[person.mounts].items()),
        "boxes": sorted(model.boxes[person.boxes].items()),
        "read": read_in(model, own),
    }


def reckoned_of_two(model, own, other):
    """What is told of one process and another one."""
    one, two = model.people[own], model.people[other]
    pairs = [("numbers", one.room(), two.room()), ("mounts", one.mounts, two.mounts), ("boxes", one.boxes, two.boxes)]
    return {"number_seen": two.number_in(one.room()), "share_rooms": [kind for kind, a, b in pairs if a == b]}


def reckoned(model, deeds):
    """All that is told of the yard, by the model."""
    owns = model.going()
    told = {(what, own): thing for own in owns for what, thing in reckoned_of_one(model, own).items()}
    for own in owns:
        for other in owns:
            told.update({(what, own, other): thing for what, thing in reckoned_of_two(model, own, other).items()})
    for name in model.groups:
        told[("charges", name)] = model.held(name)
        told[("turns_of", name)] = as_pair(sum(model.people[own].got for own in model.inside(name)))
        frozen = any(model.groups[group][3] for group in model.chain(name))
        told[("wants_of", name)] = (0 if frozen else model.wants(name), 1)
    told.update({("files", name): sorted(texts.items()) for name, texts in model.stores.items()})
    for name in model.cells:
        told[("picture", name)] = outcome_of(model.picture, name)[1]
    told["processes"] = owns
    told["ended"] = [(own, each.elder, each.outcome) for own, each in model.people.items() if each.ended]
    told["rooms"] = (len(model.live_numbers()), len(model.live_mounts()), len(model.live_boxes()))
    told["groups"] = sorted((name, outer, heft, *caps, frozen) for name, (outer, heft, caps, frozen)
                            in model.groups.items())
    told["stores"] = sorted(model.stores)
    told["cells"] = sorted((name, own if model.goes(own) else None) for name, own in model.cells.items())
    told["len"] = len(owns)
    told["repr"] = f"Yard({len(model.people)}, {len(model.groups)}, {len(model.stores)})"
    told["deeds"] = deeds
    return told


class TestHistories(unittest.TestCase):
    def histories(self, first):
        """Yards, their models and deeds; each deed is done on the model by who walks them."""
        for seed in range(first, first + HISTORIES):
            yard, model = Yard(), Model()
            drawer = Drawer(random.Random(seed), model)
            for many in range(DEEDS):
                yield yard, model, drawer.deed()

    def done(self, first):
        """Yards behind each deed that was not refused, with the deed and what it told."""
        for yard, model, deed in self.histories(first):
            outcome_of(model.do, deed)
            told = outcome_of(call, yard, deed)
            if told[0] == "told":
                yield yard, deed, told[1]

    def test_against_the_reckoning(self):
        deeds = last = None
        for yard, model, deed in self.histories(1000):
            if yard is not last:
                deeds, last = [], yard
            before = watched(yard)
            expected = outcome_of(model.do, deed)
            self.assertEqual(outcome_of(call, yard, deed), expected, deed)
            deeds += [deed] if expected[0] == "told" else []
            after = watched(yard)
            self.assertEqual(after, reckoned(model, deeds), deed)
            if expected[0] == "refused":
                self.assertEqual(after, before, deed)

    def test_turns_are_parted_by_weights(self):
        """[0.2] (a) of what is straight in one group: nobody who got less than wanted has more for its weight."""
        ticks = 0
        for yard, deed, told in self.done(2000):
            if deed[0] != "tick":
                continue
            ticks += 1
            got = {own: Fraction(*share) for own, share in told}
            names = [row[0] for row in watching.groups(yard)]
            for name in names:
                rows = [(own, *watching.holdings(yard, own)[::2]) for own in watching.processes(yard)
                        if watching.group_of(yard, own) == name]
                for own, heft, want in rows:
                    self.assertLessEqual(got.get(own, 0), want)
                    for other, weight, wanted in rows:
                        if got.get(own, 0) < want and watching.wants_of(yard, name) != (0, 1):
                            self.assertLessEqual(got.get(other, 0) / weight, got.get(own, 0) / heft)
            if len(names) == 1 and len(yard) <= 12:
                wants = [watching.holdings(yard, own)[::2] for own in watching.processes(yard)]
                amount = min(deed[1], watching.wants_of(yard, "yard")[0])
                self.assertEqual([as_pair(got.get(own, 0)) for own in watching.processes(yard)], shares(amount, wants))
        self.assertGreater(ticks, 50)

    def test_limits_numbers_and_elders(self):
        for yard, deed, told in self.done(3000):
            got = {own: Fraction(*share) for own, share in told} if deed[0] == "tick" else {}
            rows = {row[0]: row for row in watching.groups(yard)}
            for name, (same, outer, heft, unit_cap, head_cap, turn_cap, frozen) in rows.items():
                units, heads = watching.charges(yard, name)
                self.assertTrue(unit_cap is None or units <= unit_cap)
                self.assertTrue(head_cap is None or heads <= head_cap)
                turns = sum(share for own, share in got.items() if name in self.around(rows, watching.group_of(yard, own)))
                self.assertTrue(turn_cap is None or turns <= turn_cap)
                self.assertFalse(frozen and turns)
            owns = watching.processes(yard)
            for own in owns:
                seen = [number for number, elder in watching.seen_by(yard, own)]
                self.assertEqual(seen, sorted(set(seen)))
                numbers = [watching.number_seen(yard, own, other) for other in owns]
                self.assertEqual(sorted(number for number in numbers if number), seen)
                elder = watching.elder_of(yard, own)
                self.assertEqual(elder is None, own == 1)
                self.assertTrue(own == 1 or elder in owns)
                if own != 1:
                    beside = "numbers" in watching.share_rooms(yard, own, elder)
                    self.assertEqual(beside, watching.number_of(yard, own) != 1)
                    self.assertIsNotNone(watching.number_seen(yard, elder, own))
            self.assertTrue(all(elder in owns and elder != 1 for own, elder, outcome in watching.ended(yard)))

    def around(self, rows, name):
        """The group and all in which it lies."""
        return [] if name is None else [name] + self.around(rows, rows[name][1])

    def ties(self, yard, own):
        """The stores that the process has mounted, and who shares a room of mounts or boxes with it."""
        shared = [other for other in watching.processes(yard)
                  if set(watching.share_rooms(yard, own, other)) & {"mounts", "boxes"}]
        return {store for path, store, held_fast in watching.mounts(yard, own)} | set(shared)

    def test_what_others_turn(self):
        for yard, model, deed in self.histories(4000):
            outcome_of(model.do, deed)
            before = {own: (files_read(yard, own), watching.boxes(yard, own)) for own in watching.processes(yard)}
            tied = {own: self.ties(yard, own) for own in before}
            if outcome_of(call, yard, deed)[0] == "told":
                for own in set(before) & set(watching.processes(yard)):
                    if (files_read(yard, own), watching.boxes(yard, own)) != before[own]:
                        self.assertTrue(tied[own] & tied[deed[1]], deed)

    def test_frozen_thawed_and_restored(self):
        restored = 0
        for yard, deed, told in self.done(5000):
            if deed[0] in ["spawn", "finish", "strike", "wait", "want", "grow", "mount", "write", "post"]:
                frozen = deed[1] in watching.processes(yard) and watching.is_frozen(yard, deed[1])
                self.assertFalse(frozen)
            if len(deeds_of(yard)) % 7:
                continue
            for name in [row[0] for row in watching.groups(yard) if row[0] != "yard"]:
                other = twin(yard)
                words = ["freeze", "thaw"] if not self.row_of(yard, name)[6] else ["thaw", "freeze"]
                self.assertEqual(getattr(other, words[0])(name), getattr(other, words[1])(name))
                self.assertEqual(self.but_deeds(watched(other)), self.but_deeds(watched(yard)))
            for name, first in watching.cells(yard):
                kind, picture = outcome_of(yard.picture, name)[:2]
                if kind == "told":
                    restored += 1
                    other = Yard()
                    self.assertEqual(other.restore("copy", picture), 2)
                    self.assertEqual(other.picture("copy"), picture)
                    count = len(watching.processes(other)) + len(watching.ended(other)) - 1
                    self.assertEqual(count, watching.charges(yard, name)[1])
        self.assertGreater(restored, 100)

    def row_of(self, yard, name):
        return [row for row in watching.groups(yard) if row[0] == name][0]

    def but_deeds(self, told):
        return {key: thing for key, thing in told.items() if key != "deeds"}

    def test_closed_cells(self):
        for yard, model, deed in self.histories(6000):
            inside = []
            if deed[0] == "uncell" and model.is_cell(deed[1]):
                inside = model.inside(deed[1])
            outcome_of(model.do, deed)
            if outcome_of(call, yard, deed)[0] == "told" and deed[0] == "uncell":
                there = watching.processes(yard) + [own for own, elder, outcome in watching.ended(yard)]
                self.assertFalse(set(inside) & set(there))
                self.assertNotIn(deed[1], watching.stores(yard))
                self.assertNotIn(deed[1], [name for name, first in watching.cells(yard)])
                for name, outer, *rest in watching.groups(yard):
                    self.assertNotIn(deed[1], [name, outer])

    def test_played_again_written_and_read(self):
        for yard, deed, told in self.done(7000):
            if len(deeds_of(yard)) % 9 == 0:
                again = replayed(deeds_of(yard))
                self.assertTrue(again == yard)
                self.assertEqual(watched(again), watched(yard))
                text = yard_text(yard)
                other = read_yard(text)
                self.assertTrue(other == yard)
                self.assertEqual(watched(other), watched(yard))
                self.assertEqual(yard_text(other), text)
                back = undone(yard)
                self.assertEqual(deeds_of(back), deeds_of(yard)[:-1])
                self.assertFalse(back == yard)
                self.assertEqual(outcome_of(call, back, deed), ("told", told))
                self.assertEqual(watched(back), watched(yard))


if __name__ == "__main__":
    unittest.main()

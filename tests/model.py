"""A plain reckoning of a yard, by which the program is held: slow, all by recounting, and sharing nothing with it."""

import re
from fractions import Fraction

FIELDS = {"Frozen": "group", "Capped": "group", "Over": "many"}
OTHERS = (ValueError, TypeError, LookupError, AttributeError, ArithmeticError, RecursionError)


class Refused(Exception):
    """The deed is refused, by the class of this name, with this in its field."""

    def __init__(self, name, field=None):
        Exception.__init__(self, name, field)
        self.name = name
        self.field = field


def need(holds, name, field=None):
    if not holds:
        raise Refused(name, field)


def is_whole(thing, low, high):
    return type(thing) is int and low <= thing <= high


def is_name(thing):
    return type(thing) is str and re.fullmatch("[a-z]{1,6}", thing) is not None


def are_words(thing):
    return type(thing) is str and re.fullmatch("[a-z0-9]{1,20}", thing) is not None


def is_path(thing):
    return type(thing) is tuple and len(thing) <= 4 and all(map(is_name, thing))


def is_layer(thing):
    if type(thing) is not tuple or len(thing) > 12:
        return False
    for part in thing:
        if type(part) is not tuple or len(part) != 2 or not is_path(part[0]) or part[0] == ():
            return False
        if part[1] is not None and not are_words(part[1]):
            return False
    return len({path for path, text in thing}) == len(thing)


def are_layers(thing):
    return type(thing) is tuple and len(thing) <= 4 and all(map(is_layer, thing))


def files_of_layers(layers):
    files = {path: text for layer in layers for path, text in layer}
    return {path: text for path, text in files.items() if text is not None}


def are_caps(caps):
    return all(cap is None or is_whole(cap, 0, 9999) for cap in caps)


def are_kinds(thing):
    kinds = ("numbers", "mounts", "boxes")
    return type(thing) is tuple and all(type(part) is str and part in kinds for part in thing) and (
        len(set(thing)) == len(thing))


def as_pair(number):
    return (Fraction(number).numerator, Fraction(number).denominator)


def parted(amount, takers):
    """What each of the takers (key, weight, want) gets, by key: those first that are sated first."""
    got = {}
    left = Fraction(amount)
    weights = sum(weight for key, weight, want in takers)
    for key, weight, want in sorted(takers, key=lambda taker: Fraction(taker[2], taker[1])):
        got[key] = min(Fraction(want), left * weight / weights)
        left -= got[key]
        weights -= weight
    return got


class Person:
    def __init__(self, elder, group, ways, mounts, boxes):
        self.elder, self.group = elder, group
        # Tuples (room, number), the outermost first.
        self.ways = ways
        self.mounts, self.boxes = mounts, boxes
        self.heft, self.units, self.want, self.got = 1, 0, 0, Fraction(0)
        self.ended, self.outcome = False, 0

    def room(self):
        return self.ways[-1][0]

    def is_first(self):
        return self.ways[-1][1] == 1

    def number_in(self, room):
        return dict(self.ways).get(room)


class Model:
    def __init__(self):
        # For each group: the one around it, weight, limits (units, processes, turns), frozen itself.
        self.groups = {"yard": [None, 1, (None, None, None), False]}
        self.people = {1: Person(None, "yard", [(0, 1)], 0, 0)}
        self.next_own = 2
        self.next_number = {0: 2}
        self.mounts = {0: {}}
        self.boxes = {0: {}}
        self.next_room = 1
        self.stores = {}
        self.cells = {}

    def do(self, deed):
        return getattr(self, "do_" + deed[0])(*deed[1:])

    # What is there.

    def chain(self, name):
        found = []
        while name is not None:
            found.append(name)
            name = self.groups[name][0]
        return found

    def inside(self, name):
        return [own for own, person in self.people.items() if name in self.chain(person.group)]

    def held(self, name):
        people = [self.people[own] for own in self.inside(name)]
        return (sum(person.units for person in people), len(people))

    def goes(self, own):
        return type(own) is int and own in self.people and not self.people[own].ended

    def going(self):
        return [own for own in self.people if self.goes(own)]

    def is_group(self, name):
        return type(name) is str and name in self.groups

    def is_store(self, name):
        return type(name) is str and name in self.stores

    def is_cell(self, name):
        return type(name) is str and name in self.cells

    def first_of(self, room):
        return [own for own, person in self.people.items() if person.number_in(room) == 1][0]

    def room_around(self, person):
        return person.ways[-2][0] if len(person.ways) > 1 else None

    def frozen(self, own):
        return [name for name in self.chain(self.people[own].group) if self.groups[name][3]]

    def own(self, own, acting=True):
        need(self.goes(own), "NoProcess")
        if acting and self.frozen(own):
            raise Refused("Frozen", self.frozen(own)[-1])
        return self.people[own]

    def space(self, names, heads, units):
        for kind, more in [(1, heads), (0, units)]:
            for name in names:
                cap = self.groups[name][2][kind]
                need(cap is None or self.held(name)[kind] + more <= cap, "Capped", name)

    def new_room(self):
        self.next_room += 1
        return self.next_room - 1

    def come(self, person):
        self.people[self.next_own] = person
        self.next_own += 1
        return self.next_own - 1

    def numbered(self, rooms):
        ways = []
        for room in rooms:
            ways.append((room, self.next_number.setdefault(room, 1)))
            self.next_number[room] += 1
        return ways

    # Groups.

    def do_group(self, name, inner, heft, *caps):
        need(is_name(name), "NoName")
        need(self.is_group(inner), "NoGroup")
        need(is_whole(heft, 1, 100) and are_caps(caps), "NoNumber")
        need(name not in self.groups, "Taken")
        self.groups[name] = [inner, heft, caps, False]

    def do_caps(self, name, *caps):
        need(self.is_group(name), "NoGroup")
        need(are_caps(caps), "NoNumber")
        for many, cap in zip(self.held(name), caps):
            need(cap is None or many <= cap, "Over", many)
        self.groups[name][2] = caps

    def do_ungroup(self, name):
        need(not self.is_cell(name), "Held")
        need(self.is_group(name) and name != "yard", "NoGroup")
        need(not self.inside(name) and all(group[0] != name for group in self.groups.values()), "Held")
        del self.groups[name]

    def turn_frozen(self, name, frozen):
        need(self.is_group(name) and name != "yard", "NoGroup")
        need(self.groups[name][3] != frozen, "Itself")
        self.groups[name][3] = frozen
        return len(self.inside(name))

    def do_freeze(self, name):
        return self.turn_frozen(name, True)

    def do_thaw(self, name):
        return self.turn_frozen(name, False)

    def do_move(self, own, name):
        person = self.own(own, acting=False)
        need(self.is_group(name), "NoGroup")
        need(own != 1, "Guarded")
        need(person.group != name, "Itself")
        self.space([group for group in self.chain(name) if group not in self.chain(person.group)], 1, person.units)
        person.group = name

    # Processes.

    def do_spawn(self, own, fresh):
        elder = self.own(own)
        need(are_kinds(fresh), "NoKinds")
        self.space(self.chain(elder.group), 1, 0)
        rooms = [room for room, number in elder.ways]
        if "numbers" in fresh:
            rooms.append(self.new_room())
        person = Person(own, elder.group, self.numbered(rooms), elder.mounts, elder.boxes)
        if "mounts" in fresh:
            person.mounts = self.new_room()
            self.mounts[person.mounts] = dict(self.mounts[elder.mounts])
        if "boxes" in fresh:
            person.boxes = self.new_room()
            self.boxes[person.boxes] = {}
        return self.come(person)

    def end(self, doomed, outcome):
        """All the doomed end; where the outcome is None, they are no more."""
        firsts = [self.people[own].room() for own in doomed if self.goes(own) and self.people[own].is_first()]
        gone = {
            own for own, person in self.people.items()
            if own not in doomed and any(person.number_in(room) for room in firsts)}
        if outcome is None:
            gone |= set(doomed)
        dead = gone | set(doomed)
        many = len([own for own in dead if self.goes(own)])
        for own, person in self.people.items():
            while own not in dead and person.elder in dead:
                elder = self.people[person.elder]
                person.elder = self.first_of(self.room_around(elder) if elder.is_first() else elder.room())
        for own in dead - gone:
            person = self.people[own]
            person.units, person.want, person.ended, person.outcome = 0, 0, True, outcome
            person.mounts = person.boxes = None
        self.people = {
            own: person for own, person in self.people.items()
            if own not in gone and not (person.ended and person.elder == 1)}
        return many

    def do_finish(self, own, outcome):
        self.own(own)
        need(is_whole(outcome, 0, 255), "NoNumber")
        need(own != 1, "Guarded")
        return self.end([own], outcome)

    def do_strike(self, own, number):
        room = self.own(own).room()
        found = [
            other for other in self.going()
            if type(number) is int and self.people[other].number_in(room) == number]
        need(found, "NoSuch")
        need(number != 1, "Guarded")
        return self.end(found, 9)

    def do_wait(self, own):
        room = self.own(own).room()
        young = [other for other, person in self.people.items() if person.elder == own]
        need(young, "NoChild")
        ended = {self.people[other].number_in(room): other for other in young if self.people[other].ended}
        need(ended, "NotYet")
        number = min(ended)
        return (number, self.people.pop(ended[number]).outcome)

    # Turns and units.

    def do_want(self, own, many):
        person = self.own(own)
        need(is_whole(many, 0, 999), "NoNumber")
        person.want = many

    def do_heft(self, own, heft):
        person = self.own(own, acting=False)
        need(is_whole(heft, 1, 100), "NoNumber")
        person.heft = heft

    def do_grow(self, own, many):
        person = self.own(own)
        need(is_whole(many, 1, 999), "NoNumber")
        self.space(self.chain(person.group), 0, many)
        person.units += many
        return person.units

    def do_shrink(self, own, many):
        person = self.own(own)
        need(is_whole(many, 1, 999), "NoNumber")
        need(person.units >= many, "TooFew")
        person.units -= many
        return person.units

    def takers(self, name):
        groups = [(other, group[1], self.wants(other)) for other, group in self.groups.items() if group[0] == name]
        return groups + [
            (own, person.heft, person.want) for own, person in self.people.items()
            if person.group == name and not person.ended]

    def wants(self, name):
        if self.groups[name][3]:
            return 0
        wanted = sum(want for key, weight, want in self.takers(name))
        cap = self.groups[name][2][2]
        return wanted if cap is None else min(wanted, cap)

    def give(self, name, amount, shares):
        for key, share in parted(amount, self.takers(name)).items():
            if type(key) is str:
                self.give(key, share, shares)
            elif share > 0:
                shares[key] = share

    def do_tick(self, amount):
        need(is_whole(amount, 0, 9999), "NoNumber")
        shares = {}
        self.give("yard", min(amount, self.wants("yard")), shares)
        for own, share in shares.items():
            self.people[own].got += share
        return sorted((own, as_pair(share)) for own, share in shares.items())

    # Stores and rooms.

    def live_mounts(self):
        return {0} | {self.people[own].mounts for own in self.going()}

    def live_boxes(self):
        return {0} | {self.people[own].boxes for own in self.going()}

    def live_numbers(self):
        return {0} | {person.room() for person in self.people.values()}

    def has_mounted(self, room, name):
        return any(store == name for store, held in self.mounts[room].values())

    def do_store(self, name, layers):
        need(is_name(name), "NoName")
        need(are_layers(layers), "NoLayers")
        need(name not in self.stores, "Taken")
        self.stores[name] = files_of_layers(layers)
        return len(self.stores[name])

    def do_unstore(self, name):
        need(self.is_store(name), "NoStore")
        need(name not in self.cells and not any(self.has_mounted(room, name) for room in self.live_mounts()), "Held")
        del self.stores[name]

    def do_mount(self, own, path, name, held_fast):
        person = self.own(own)
        need(is_path(path), "NoPath")
        need(self.is_store(name), "NoStore")
        need(type(held_fast) is bool, "NoNumber")
        need(path not in self.mounts[person.mounts], "Taken")
        self.mounts[person.mounts][path] = (name, held_fast)

    def do_unmount(self, own, path):
        person = self.own(own)
        need(is_path(path), "NoPath")
        need(path in self.mounts[person.mounts], "NoMount")
        del self.mounts[person.mounts][path]

    def spot(self, person, path):
        need(is_path(path), "NoPath")
        begun = [at for at in self.mounts[person.mounts] if len(at) < len(path) and path[:len(at)] == at]
        need(begun, "NoMount")
        at = max(begun, key=len)
        name, held_fast = self.mounts[person.mounts][at]
        return self.stores[name], path[len(at):], held_fast

    def do_write(self, own, path, text):
        files, rest, held_fast = self.spot(self.own(own), path)
        need(are_words(text), "NoWords")
        need(not held_fast, "Fixed")
        files[rest] = text

    def do_erase(self, own, path):
        files, rest, held_fast = self.spot(self.own(own), path)
        need(not held_fast, "Fixed")
        need(rest in files, "NoFile")
        del files[rest]

    def do_post(self, own, name, text):
        person = self.own(own)
        need(is_name(name), "NoName")
        need(text is None or are_words(text), "NoWords")
        self.boxes[person.boxes][name] = text
        if text is None:
            del self.boxes[person.boxes][name]

    # Cells.

    def do_cell(self, name, layers, heft, *caps):
        need(is_name(name), "NoName")
        need(are_layers(layers), "NoLayers")
        need(is_whole(heft, 1, 100) and are_caps(caps), "NoNumber")
        need(name not in self.groups and name not in self.stores, "Taken")
        self.space(["yard"], 1, 0)
        need(caps[1] != 0, "NoNumber")
        self.groups[name] = ["yard", heft, caps, False]
        self.stores[name] = files_of_layers(layers)
        room, mounts, boxes = self.new_room(), self.new_room(), self.new_room()
        self.mounts[mounts] = {(): (name, False)}
        self.boxes[boxes] = {}
        self.cells[name] = self.come(Person(1, name, self.numbered([0, room]), mounts, boxes))
        return self.cells[name]

    def do_uncell(self, name):
        need(self.is_cell(name), "NoCell")
        inside = self.inside(name)
        for own in self.going():
            need(own in inside or not self.has_mounted(self.people[own].mounts, name), "Held")
        many = self.end(inside, None)
        self.groups = {other: group for other, group in self.groups.items() if name not in self.chain(other)}
        del self.stores[name], self.cells[name]
        return many

    def is_closed(self, name):
        """Each case that [7.3] names, one by one."""
        first = self.cells[name]
        if not self.goes(first) or self.people[first].group != name:
            return False
        if any(group[0] == name for group in self.groups.values()):
            return False
        room = self.people[first].room()
        mine = [own for own, person in self.people.items() if person.group == name]
        if mine != [own for own, person in self.people.items() if person.number_in(room)]:
            return False
        inside = [own for own in mine if self.goes(own)]
        for own in inside:
            for other in set(self.going()) - set(inside):
                one, two = self.people[own], self.people[other]
                if one.mounts == two.mounts or one.boxes == two.boxes:
                    return False
        if any(self.people[own].elder not in mine for own in mine if own != first):
            return False
        rooms = {self.people[own].mounts for own in inside}
        for at in self.live_mounts():
            for store, held_fast in self.mounts[at].values():
                if (at in rooms) != (store == name):
                    return False
        return True

    def picture(self, name):
        need(self.is_cell(name), "NoCell")
        need(self.is_closed(name), "NotClosed")
        top = self.people[self.cells[name]].room()
        people = sorted(
            [person for person in self.people.values() if person.group == name],
            key=lambda person: person.number_in(top))
        numbers, mounts, boxes, rows = [], [], [], []
        around = {}
        for person in people:
            ways = person.ways[1:]
            for (outer, number), (inner, other) in zip([(None, 0)] + ways, ways):
                around[inner] = outer
                numbers += [inner] if inner not in numbers else []
            mounts += [person.mounts] if person.mounts not in mounts and not person.ended else []
            boxes += [person.boxes] if person.boxes not in boxes and not person.ended else []
            rows.append((
                self.people[person.elder].number_in(top) or 0,
                tuple((numbers.index(room), number) for room, number in ways),
                None if person.ended else mounts.index(person.mounts),
                None if person.ended else boxes.index(person.boxes),
                person.heft, person.units, person.want, as_pair(person.got), person.ended, person.outcome))
        outer, heft, caps, frozen = self.groups[name]
        return (
            heft, caps, frozen, tuple(sorted(self.stores[name].items())),
            tuple((
                None if around[room] is None else numbers.index(around[room]), self.next_number[room],
                self.people[self.first_of(room)].number_in(top)) for room in numbers),
            tuple(tuple(sorted((path, held) for path, (store, held) in self.mounts[room].items())) for room in mounts),
            tuple(tuple(sorted(self.boxes[room].items())) for room in boxes),
            tuple(rows))

    def build(self, name, picture):
        """The cell of this picture, put there without looking whether it is one."""
        heft, caps, frozen, files, numbers, mounts, boxes, rows = picture
        self.groups[name] = ["yard", heft, tuple(caps), frozen]
        self.stores[name] = dict(files)
        number_rooms = [self.new_room() for room in numbers]
        mount_rooms = [self.new_room() for room in mounts]
        box_rooms = [self.new_room() for room in boxes]
        for at, (around, coming, first) in zip(number_rooms, numbers):
            self.next_number[at] = coming
        for at, room in zip(mount_rooms, mounts):
            self.mounts[at] = {path: (name, held_fast) for path, held_fast in room}
        for at, room in zip(box_rooms, boxes):
            self.boxes[at] = dict(room)
        first = self.next_own
        owns = {ways[0][1]: first + at for at, (elder, ways, *rest) in enumerate(rows)}
        for elder, ways, at_mounts, at_boxes, heft, units, want, got, ended, outcome in rows:
            ways = self.numbered([0]) + [(number_rooms[place], number) for place, number in ways]
            person = Person(1 if elder == 0 else owns[elder], name, ways, None, None)
            if at_mounts is not None:
                person.mounts = mount_rooms[at_mounts]
            if at_boxes is not None:
                person.boxes = box_rooms[at_boxes]
            person.heft, person.units, person.want, person.got = heft, units, want, Fraction(*got)
            person.ended, person.outcome = ended, outcome
            self.come(person)
        self.cells[name] = first
        return first

    def do_restore(self, name, picture):
        need(is_name(name), "NoName")
        need(is_picture(picture), "NoPicture")
        need(name not in self.groups and name not in self.stores, "Taken")
        rows = picture[7]
        self.space(["yard"], len(rows), sum(row[5] for row in rows))
        return self.build(name, picture)


def is_picture(picture):
    """Whether a cell that is put there as the picture has it is sound, and has just this picture."""
    try:
        model = Model()
        model.build("cell", picture)
        # The signs tell truths from numbers, and lists from tuples, which == does not.
        return repr(model.picture("cell")) == repr(picture) and is_sound(model)
    except OTHERS + (Refused,):
        return False


def is_sound(model):
    """Whether all numbers are within their bounds, and all is as [7.4] names it."""
    for name, (outer, heft, caps, frozen) in model.groups.items():
        units, heads = model.held(name)
        if not is_whole(heft, 1, 100) or len(caps) != 3 or not are_caps(caps) or type(frozen) is not bool:
            return False
        if caps[0] is not None and units > caps[0] or caps[1] is not None and heads > caps[1]:
            return False
    texts = [pair for files in model.stores.values() for pair in files.items()]
    if not all(is_path(path) and path and are_words(text) for path, text in texts):
        return False
    mounts = [pair for room in model.mounts.values() for pair in room.items()]
    if not all(is_path(path) and type(held_fast) is bool for path, (store, held_fast) in mounts):
        return False
    boxes = [pair for room in model.boxes.values() for pair in room.items()]
    if not all(is_name(name) and are_words(text) for name, text in boxes):
        return False
    return all(is_sound_person(model, own) for own in model.people)


def is_sound_person(model, own):
    person = model.people[own]
    if not is_whole(person.heft, 1, 100) or not is_whole(person.want, 0, 999) or type(person.units) is not int:
        return False
    if person.units < 0 or person.got < 0 or type(person.ended) is not bool or not is_whole(person.outcome, 0, 255):
        return False
    if person.ended and (person.units or person.want or person.mounts is not None or person.boxes is not None):
        return False
    if not person.ended and (person.outcome or person.mounts is None or person.boxes is None):
        return False
    rooms = [room for room, number in person.ways]
    for at, (room, number) in enumerate(person.ways):
        if not is_whole(number, 1, model.next_number[room] - 1):
            return False
        # Whoever came later has a higher number.
        earlier = [model.people[other].number_in(room) for other in model.people if other < own]
        if any(other is not None and other >= number for other in earlier):
            return False
        first = model.people[model.first_of(room)]
        if [other for other, number in first.ways] != rooms[:at + 1] or first.ended and first != person:
            return False
    if own == 1:
        return person.elder is None
    around = model.room_around(person) if person.is_first() else person.room()
    return person.elder < own and model.goes(person.elder) and model.people[person.elder].room() == around

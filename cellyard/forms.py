"""What is a picture of a cell, and what is none: [7.4]."""

from cellyard.groups import is_cap, is_heft, passes
from cellyard.layers import are_words, is_name, is_path
from cellyard.numbers import is_fraction, is_whole, is_within
from cellyard.processes import MAX_OUTCOME
from cellyard.rooms import FIRST
from cellyard.sharing import MAX_MOST

OUTSIDE = 0


class Likeness:
    """What a picture tells of a process, with its number in the first's room, its own room, and its number there."""

    def __init__(self, row):
        elder, ways, mounts, boxes, heft, units, want, got, has_ended, outcome = row
        self.elder = elder
        self.ways = ways
        self.number = ways[0][1]
        self.room = ways[-1][0]
        self.number_there = ways[-1][1]
        self.mounts = mounts
        self.boxes = boxes
        self.heft = heft
        self.units = units
        self.want = want
        self.got = got
        self.has_ended = has_ended
        self.outcome = outcome


def is_picture(thing):
    """Whether the thing is such a tuple as is told of some cell."""
    if not is_tuple_of(thing, 8):
        return False
    heft, caps, frozen, files, numbers, mounts, boxes, rows = thing
    if not is_heft(heft) or not are_caps(caps) or not isinstance(frozen, bool) or not are_files(files):
        return False
    if not are_number_rooms(numbers) or not are_all(mounts, is_mount_room) or not are_all(boxes, is_box_room):
        return False
    if not are_all(rows, is_process_row) or len(rows) == 0:
        return False
    told = [Likeness(row) for row in rows]
    going = [each for each in told if not each.has_ended]
    return (
        keep_caps(told, caps)
        and all([leads_inwards(each.ways, numbers) for each in told])
        and are_met_in_order([place for each in told for place, number in each.ways], numbers)
        and are_met_in_order([each.mounts for each in going], mounts)
        and are_met_in_order([each.boxes for each in going], boxes)
        and do_numbers_rise(told, numbers)
        and have_firsts(told, numbers)
        and have_elders(told, numbers))


def is_tuple_of(thing, many):
    """Whether the thing is a tuple of so many parts."""
    return isinstance(thing, tuple) and len(thing) == many


def are_all(thing, is_such):
    """Whether the thing is a tuple of such things alone."""
    return isinstance(thing, tuple) and all([is_such(part) for part in thing])


def are_caps(thing):
    """Whether the thing is a tuple of three limits."""
    return is_tuple_of(thing, 3) and are_all(thing, is_cap)


def are_files(thing):
    """Whether the thing is a tuple of files as a store tells them."""
    return are_rising_pairs(thing, is_file_path, are_words)


def is_mount_room(thing):
    """Whether the thing is what is told of a room of mounts."""
    return are_rising_pairs(thing, is_path, is_truth)


def is_box_room(thing):
    """Whether the thing is what is told of a room of boxes."""
    return are_rising_pairs(thing, is_name, are_words)


def are_rising_pairs(thing, is_key, is_value):
    """Whether the thing is a tuple of tuples (key, value) by rising keys, all unlike."""
    if not isinstance(thing, tuple):
        return False
    for pair in thing:
        if not is_tuple_of(pair, 2) or not is_key(pair[0]) or not is_value(pair[1]):
            return False
    keys = [key for key, value in thing]
    return keys == sorted(set(keys))


def is_file_path(thing):
    """Whether the thing is a path that a file may have in its store."""
    return is_path(thing) and len(thing) > 0


def is_truth(thing):
    """Whether the thing is True or False."""
    return isinstance(thing, bool)


def are_number_rooms(thing):
    """Whether the thing, by itself, is a tuple of what is told of rooms of numbers."""
    if not isinstance(thing, tuple):
        return False
    for place, room in enumerate(thing):
        if not is_tuple_of(room, 3):
            return False
        outer, coming, first = room
        if not is_whole(coming) or not is_whole(first) or (outer is None) != (place == 0):
            return False
        if outer is not None and not is_whole(outer):
            return False
    return True


def is_process_row(thing):
    """Whether the thing, by itself, is what is told of a process."""
    if not is_tuple_of(thing, 10):
        return False
    elder, ways, mounts, boxes, heft, units, want, got, has_ended, outcome = thing
    if not is_from(elder, OUTSIDE) or not are_all(ways, is_way) or len(ways) == 0:
        return False
    if not is_heft(heft) or not is_from(units, 0) or not is_within(want, 0, MAX_MOST) or not is_fraction(got):
        return False
    if not is_truth(has_ended) or not is_within(outcome, 0, MAX_OUTCOME):
        return False
    if has_ended:
        return mounts is None and boxes is None and units == 0 and want == 0
    return is_from(mounts, 0) and is_from(boxes, 0) and outcome == 0


def is_from(thing, low):
    """Whether the thing is a whole number that is not below this."""
    return is_whole(thing) and thing >= low


def is_way(thing):
    """Whether the thing is a tuple (place of a room, number there)."""
    return is_tuple_of(thing, 2) and is_from(thing[0], 0) and is_from(thing[1], FIRST)


def keep_caps(told, caps):
    """Whether there are no more units, and no more processes, than the limits."""
    unit_cap, head_cap, turn_cap = caps
    return not passes(sum([each.units for each in told]), unit_cap) and not passes(len(told), head_cap)


def leads_inwards(ways, numbers):
    """Whether the ways begin at the first's room, and each further room lies in the one ahead of it."""
    lies_in = None
    for place, number in ways:
        if place >= len(numbers) or numbers[place][0] != lies_in:
            return False
        lies_in = place
    return True


def are_met_in_order(places, rooms):
    """Whether each of the rooms is met at these places, and met in the order of the rooms."""
    met = 0
    for place in places:
        if place > met:
            return False
        if place == met:
            met += 1
    return met == len(rooms)


def do_numbers_rise(told, numbers):
    """Whether in each room numbers rise as processes come, and are below the next one."""
    last = {}
    for each in told:
        for place, number in each.ways:
            if number <= last.get(place, 0) or number >= numbers[place][1]:
                return False
            last[place] = number
    return True


def have_firsts(told, numbers):
    """Whether each room's first is in it, as the room tells, and is alone if it has ended."""
    firsts = {each.room: each for each in told if each.number_there == FIRST}
    met = [place for each in told for place, number in each.ways]
    for place, (outer, coming, first) in enumerate(numbers):
        if place not in firsts or firsts[place].number != first:
            return False
        if firsts[place].has_ended and met.count(place) > 1:
            return False
    return True


def have_elders(told, numbers):
    """Whether the cell's first goes and has its elder outside, and all others have theirs where they ought to."""
    if told[0].elder != OUTSIDE or told[0].has_ended:
        return False
    by_number = {each.number: each for each in told}
    return all([has_elder(each, by_number, numbers) for each in told[1:]])


def has_elder(each, by_number, numbers):
    """Whether its elder goes, came ahead of it, and is in its room, or, of a room's first, in that around it."""
    if each.elder not in by_number or each.elder >= each.number:
        return False
    elder = by_number[each.elder]
    room = numbers[each.room][0] if each.number_there == FIRST else each.room
    return not elder.has_ended and elder.room == room

"""Deeds as tuples, each of a word and its parts, and how each is done on a ground: [9.1]."""

from cellyard.errors import NoDeeds
from cellyard.pictures import restore_cell


def do_group(ground, parts):
    """A group is made."""
    name, inner, heft, unit_cap, head_cap, turn_cap = parts
    return ground.groups.make_group(
        name, inner, heft=heft, unit_cap=unit_cap, head_cap=head_cap, turn_cap=turn_cap)


def do_caps(ground, parts):
    """A group gets other limits."""
    name, unit_cap, head_cap, turn_cap = parts
    return ground.groups.set_caps(name, unit_cap=unit_cap, head_cap=head_cap, turn_cap=turn_cap)


def do_ungroup(ground, parts):
    """A group is taken away."""
    return ground.remove_group(parts[0])


def do_move(ground, parts):
    """A process gets into another group."""
    own, name = parts
    return ground.move(own, name)


def do_freeze(ground, parts):
    """A group is frozen."""
    return ground.groups.freeze(parts[0])


def do_thaw(ground, parts):
    """A group is thawed."""
    return ground.groups.thaw(parts[0])


def do_spawn(ground, parts):
    """A process gets a young one."""
    own, fresh = parts
    return ground.spawn(own, fresh=fresh)


def do_finish(ground, parts):
    """A process ends."""
    own, outcome = parts
    return ground.finish(own, outcome)


def do_strike(ground, parts):
    """A process ends by another one."""
    own, number = parts
    return ground.strike(own, number)


def do_wait(ground, parts):
    """A process waits for a young one."""
    return ground.wait(parts[0])


def do_want(ground, parts):
    """A process wants turns."""
    own, many = parts
    return ground.set_want(own, many)


def do_heft(ground, parts):
    """A process gets another weight."""
    own, heft = parts
    return ground.set_heft(own, heft)


def do_grow(ground, parts):
    """A process takes units."""
    own, many = parts
    return ground.grow(own, many)


def do_shrink(ground, parts):
    """A process gives units back."""
    own, many = parts
    return ground.shrink(own, many)


def do_tick(ground, parts):
    """Turns are given."""
    return ground.tick(parts[0])


def do_store(ground, parts):
    """A store is added."""
    name, layers = parts
    return ground.stores.add_store(name, layers)


def do_unstore(ground, parts):
    """A store is taken away."""
    return ground.remove_store(parts[0])


def do_mount(ground, parts):
    """A store is mounted."""
    own, path, name, held_fast = parts
    return ground.mount(own, path, name, held_fast=held_fast)


def do_unmount(ground, parts):
    """A store is mounted somewhere no more."""
    own, path = parts
    return ground.unmount(own, path)


def do_write(ground, parts):
    """A file is written."""
    own, path, text = parts
    return ground.write(own, path, text)


def do_erase(ground, parts):
    """A file is taken away."""
    own, path = parts
    return ground.erase(own, path)


def do_post(ground, parts):
    """A box is filled or taken away."""
    own, name, text = parts
    return ground.post(own, name, text)


def do_cell(ground, parts):
    """A cell is opened."""
    name, layers, heft, unit_cap, head_cap, turn_cap = parts
    return ground.open_cell(
        name, layers, heft=heft, unit_cap=unit_cap, head_cap=head_cap, turn_cap=turn_cap)


def do_uncell(ground, parts):
    """A cell is closed."""
    return ground.close_cell(parts[0])


def do_restore(ground, parts):
    """A cell is restored from a picture."""
    name, picture = parts
    return restore_cell(ground, name, picture)


DEEDS = {
    "group": do_group, "caps": do_caps, "ungroup": do_ungroup, "move": do_move, "freeze": do_freeze,
    "thaw": do_thaw, "spawn": do_spawn, "finish": do_finish, "strike": do_strike, "wait": do_wait,
    "want": do_want, "heft": do_heft, "grow": do_grow, "shrink": do_shrink, "tick": do_tick,
    "store": do_store, "unstore": do_unstore, "mount": do_mount, "unmount": do_unmount, "write": do_write,
    "erase": do_erase, "post": do_post, "cell": do_cell, "uncell": do_uncell, "restore": do_restore,
}
PARTS = {
    "group": 6, "caps": 4, "ungroup": 1, "move": 2, "freeze": 1, "thaw": 1, "spawn": 2, "finish": 2,
    "strike": 2, "wait": 1, "want": 2, "heft": 2, "grow": 2, "shrink": 2, "tick": 1, "store": 2,
    "unstore": 1, "mount": 4, "unmount": 2, "write": 3, "erase": 2, "post": 3, "cell": 6, "uncell": 1,
    "restore": 2,
}


def is_deed(thing):
    """Whether the thing is a tuple of a deed's word and as many parts as it has; the parts may be any things."""
    if not isinstance(thing, tuple) or len(thing) == 0 or not isinstance(thing[0], str):
        return False
    return thing[0] in PARTS and len(thing) == 1 + PARTS[thing[0]]


def do_deed(ground, deed):
    """Do the deed on the ground; told is what the deed tells."""
    if not is_deed(deed):
        raise NoDeeds("a deed is a tuple of its word and its parts")
    act = DEEDS[deed[0]]
    return act(ground, deed[1:])

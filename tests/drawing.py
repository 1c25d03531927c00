"""Deeds of a yard, drawn by a rule of the tests' own: most of them fit what is there, some do not."""

NAMES = ["a", "b", "c", "d"]
CELLS = ["x", "y", "z"]
KINDS = ["numbers", "mounts", "boxes"]
TEXTS = ["one", "two2", "3", "z" * 20]
ODD = [None, True, False, -1, 0, 10000, "", "yard", "Aa", "nobody", (), [], (1,), [("a",)], (("a",), None), {}]
WORDS = {
    "group": 4, "caps": 3, "ungroup": 3, "move": 6, "freeze": 2, "thaw": 3, "spawn": 18, "finish": 6, "strike": 4,
    "wait": 6, "want": 9, "heft": 4, "grow": 7, "shrink": 4, "tick": 6, "store": 3, "unstore": 2, "mount": 5,
    "unmount": 3, "write": 6, "erase": 3, "post": 5, "cell": 4, "uncell": 2, "restore": 4,
}


class Drawer:
    """Draws deeds for the yard that the model reckons; `rng` is a random.Random of the test's own seed."""

    def __init__(self, rng, model):
        self.rng = rng
        self.model = model
        self.pictures = []

    def deed(self):
        """A deed; now and then one of its parts is some odd thing."""
        word = self.rng.choices(list(WORDS), list(WORDS.values()))[0]
        deed = (word,) + getattr(self, "draw_" + word)()
        if self.rng.random() < 0.06:
            at = self.rng.randrange(1, len(deed))
            deed = deed[:at] + (self.rng.choice(ODD),) + deed[at + 1:]
        return deed

    def one_of(self, *things):
        return self.rng.choice(things)

    def own(self):
        if self.rng.random() < 0.05:
            return self.rng.randrange(0, self.model.next_own + 2)
        return self.rng.choice(self.model.going())

    def group(self):
        return self.rng.choice(list(self.model.groups) + NAMES[:1])

    def store(self):
        return self.rng.choice(list(self.model.stores) + NAMES[:1])

    def cell(self):
        return self.rng.choice(list(self.model.cells) + CELLS[:1])

    def cap(self, *near):
        return self.rng.choice([None, None] + list(near))

    def caps(self):
        return (self.cap(5, 20, 60), self.cap(1, 3, 6, 9), self.cap(0, 1, 4, 10))

    def path(self, least=0):
        return tuple(self.rng.choice("pq") for at in range(self.rng.randrange(least, 4)))

    def layers(self):
        return tuple(
            tuple({self.path(1): self.one_of(None, *TEXTS) for many in range(self.rng.randrange(3))}.items())
            for layer in range(self.rng.randrange(3)))

    def young(self):
        """An elder of one that ended, where there is one."""
        elders = [person.elder for person in self.model.people.values() if person.ended]
        return self.rng.choice(elders) if elders and self.rng.random() < 0.7 else self.own()

    def draw_group(self):
        return (self.one_of(*NAMES), self.group(), self.rng.randrange(1, 5)) + self.caps()

    def draw_caps(self):
        name = self.group()
        if name not in self.model.groups:
            return (name, None, None, None)
        units, heads = self.model.held(name)
        around = [-1, 0, 1, 4]
        caps = [max(0, many + self.rng.choice(around)) for many in (units, heads)]
        return (name, self.cap(caps[0]), self.cap(caps[1]), self.cap(0, 2, 7))

    def draw_ungroup(self):
        return (self.group(),)

    def draw_move(self):
        return (self.own(), self.group())

    def draw_freeze(self):
        return (self.group(),)

    def draw_thaw(self):
        frozen = [name for name, group in self.model.groups.items() if group[3]]
        return (self.rng.choice(frozen + [self.group()]),)

    def draw_spawn(self):
        return (self.own(), tuple(self.rng.sample(KINDS, self.rng.choice([0, 0, 0, 1, 1, 2, 3]))))

    def draw_finish(self):
        return (self.own(), self.one_of(0, 7, 255))

    def draw_strike(self):
        return (self.own(), self.rng.randrange(1, 8))

    def draw_wait(self):
        return (self.young(),)

    def draw_want(self):
        return (self.own(), self.one_of(0, 1, 3, 5, 8, 999))

    def draw_heft(self):
        return (self.own(), self.one_of(1, 2, 3, 7, 100))

    def draw_grow(self):
        return (self.own(), self.one_of(1, 2, 5, 20, 999))

    def draw_shrink(self):
        return (self.own(), self.one_of(1, 2, 5))

    def draw_tick(self):
        return (self.one_of(0, 1, 2, 5, 13, 40, 9999),)

    def draw_store(self):
        return (self.one_of(*NAMES), self.layers())

    def draw_unstore(self):
        return (self.store(),)

    def draw_mount(self):
        return (self.own(), self.path(), self.store(), self.rng.random() < 0.3)

    def draw_unmount(self):
        own = self.own()
        room = self.model.people[own].mounts if self.model.goes(own) else 0
        return (own, self.rng.choice(list(self.model.mounts[room]) + [self.path()]))

    def draw_write(self):
        return (self.own(), self.path(1), self.one_of(*TEXTS))

    def draw_erase(self):
        return (self.own(), self.path(1))

    def draw_post(self):
        return (self.own(), self.one_of(*NAMES), self.one_of(None, *TEXTS))

    def draw_cell(self):
        return (self.one_of(*CELLS), self.layers(), self.rng.randrange(1, 5)) + self.caps()

    def draw_uncell(self):
        return (self.cell(),)

    def draw_restore(self):
        closed = [name for name in self.model.cells if self.model.is_closed(name)]
        if closed:
            self.pictures = self.pictures[-9:] + [self.model.picture(self.rng.choice(closed))]
        picture = self.rng.choice(self.pictures) if self.pictures else None
        return (self.one_of(*CELLS), picture)

"""The world of a machine: kinds by what was given to them, objects by what their places hold."""

from latekinds.books import MOST_KINDS
from latekinds.grounds import Ground
from latekinds.plainly import MOST_OBJECTS
from latekinds.schemes import compared


class World:
    """The `ground` of the kinds, and for each object its kind, in `kinds_of`, and its arms, in `memories`."""

    def __init__(self):
        self.ground = Ground()
        self.kinds_of = []
        self.memories = []

    def copied(self):
        """Another one that goes on apart."""
        twin = World()
        twin.ground = self.ground
        twin.kinds_of = list(self.kinds_of)
        twin.memories = [[list(arm) for arm in memory] for memory in self.memories]
        return twin

    def may_load(self):
        """Whether one kind more may come."""
        return self.ground.standing.many() < MOST_KINDS

    def may_make(self):
        """Whether one object more may come."""
        return len(self.kinds_of) < MOST_OBJECTS

    def load(self, parents, many):
        """A kind comes that brings so many fields; its number."""
        self.ground = self.ground.followed_by(parents, many)
        return self.ground.standing.many() - 1

    def make(self, kind):
        """An object of the kind comes; its number."""
        self.kinds_of.append(kind)
        self.memories.append([[0] * many for many in self.ground.arms.stacking.sizes[kind]])
        return len(self.kinds_of) - 1

    def drop_object(self):
        """The last object is taken back."""
        self.kinds_of.pop()
        self.memories.pop()

    def kind_of(self, thing):
        """The kind of the object."""
        return self.kinds_of[thing]

    def is_one(self, thing, kind):
        """Whether the object is one of the kind, by one comparison."""
        return compared(self.ground.standing.scheme, self.kinds_of[thing], kind)

    def brings(self, kind):
        """How many fields the kind brings."""
        return self.ground.fields[kind]

    def place(self, kind, field):
        """The arm and the index where the field of the kind lies in all objects."""
        return self.ground.arms.stacking.places[kind][field]

    def read(self, thing, kind, field):
        """What the field that the kind brings holds in the object."""
        arm, index = self.place(kind, field)
        return self.memories[thing][arm][index]

    def write(self, thing, kind, field, value):
        """The field that the kind brings holds the value in the object from now on."""
        arm, index = self.place(kind, field)
        self.memories[thing][arm][index] = value

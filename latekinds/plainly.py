"""The plain way to keep kinds and objects: all that a kind is, and fields by the kind that brings them."""

from latekinds.books import MOST_KINDS

MOST_OBJECTS = 2000


class Plain:
    """Kinds by masks of all that they are, objects by pairs of a kind and of a dict of what was written."""

    def __init__(self):
        self.above = []
        self.fields = []
        self.objects = []

    def may_load(self):
        """Whether one kind more may come."""
        return len(self.above) < MOST_KINDS

    def may_make(self):
        """Whether one object more may come."""
        return len(self.objects) < MOST_OBJECTS

    def load(self, parents, many):
        """A kind comes that brings so many fields; its number."""
        kind = len(self.above)
        mask = 1 << kind
        for parent in parents:
            mask |= self.above[parent]
        self.above.append(mask)
        self.fields.append(many)
        return kind

    def make(self, kind):
        """An object of the kind comes; its number."""
        self.objects.append((kind, {}))
        return len(self.objects) - 1

    def kind_of(self, thing):
        """The kind of the object."""
        return self.objects[thing][0]

    def is_one(self, thing, kind):
        """Whether the object is one of the kind."""
        return bool(self.above[self.objects[thing][0]] >> kind & 1)

    def brings(self, kind):
        """How many fields the kind brings."""
        return self.fields[kind]

    def read(self, thing, kind, field):
        """What the field that the kind brings holds in the object."""
        return self.objects[thing][1].get((kind, field), 0)

    def write(self, thing, kind, field, value):
        """The field that the kind brings holds the value in the object from now on."""
        self.objects[thing][1][(kind, field)] = value

"""Effects: what a row does, told by what the registers hold and by what the world of kinds and objects answers.

An effect is a tuple of a word and of what belongs to it; "fault" if the row cannot be done. Nothing is changed here.
"""

from latekinds.checks import is_integer, is_number

MOST_SUM = 10 ** 18
FAULT = ("fault",)
NOTHING = ("nothing",)


def named(value, word):
    """The number of the kind, or of the object, that the value is by this word; None if it is none."""
    if isinstance(value, tuple) and value[0] == word:
        return value[1]
    return None


def kind_in(held, x):
    """The kind that the register holds, or None."""
    return named(held[x], "kind")


def object_in(held, x):
    """The object that the register holds, or None."""
    return named(held[x], "object")


def effect_of_set(world, held, row):
    """A number is held."""
    _, x, number = row
    return "hold", x, number


def effect_of_copy(world, held, row):
    """What another register holds is held."""
    _, x, y = row
    return "hold", x, held[y]


def effect_of_add(world, held, row):
    """A sum is held, if it is within the bounds."""
    _, x, y, z = row
    if not is_integer(held[y]) or not is_integer(held[z]):
        return FAULT
    found = held[y] + held[z]
    return ("hold", x, found) if is_number(found, -MOST_SUM, MOST_SUM) else FAULT


def effect_of_load(world, held, row):
    """A kind comes."""
    _, x, places, fields = row
    parents = [kind_in(held, place) for place in places]
    if None in parents or len(set(parents)) < len(parents) or not world.may_load():
        return FAULT
    return "load", x, tuple(sorted(parents)), fields


def effect_of_make(world, held, row):
    """An object comes."""
    _, x, y = row
    kind = kind_in(held, y)
    return ("make", x, kind) if kind is not None and world.may_make() else FAULT


def effect_of_kind(world, held, row):
    """The kind of an object is held."""
    _, x, y = row
    thing = object_in(held, y)
    return ("hold", x, ("kind", world.kind_of(thing))) if thing is not None else FAULT


def has_field(world, thing, kind, field):
    """Whether there is an object and a kind that it is, and this kind brings the field."""
    if thing is None or kind is None:
        return False
    return world.is_one(thing, kind) and field < world.brings(kind)


def effect_of_write(world, held, row):
    """A field holds what a register holds."""
    _, y, z, field, v = row
    thing = object_in(held, y)
    kind = kind_in(held, z)
    return ("write", thing, kind, field, held[v]) if has_field(world, thing, kind, field) else FAULT


def effect_of_read(world, held, row):
    """What a field holds is held."""
    _, x, y, z, field = row
    thing = object_in(held, y)
    kind = kind_in(held, z)
    return ("hold", x, world.read(thing, kind, field)) if has_field(world, thing, kind, field) else FAULT


def effect_of_is(world, held, row):
    """Another row comes next if an object is one of a kind."""
    _, y, z, to = row
    thing = object_in(held, y)
    kind = kind_in(held, z)
    if thing is None or kind is None:
        return FAULT
    return ("go", to) if world.is_one(thing, kind) else NOTHING


def effect_of_less(world, held, row):
    """Another row comes next if an integer is less than another one."""
    _, y, z, to = row
    if not is_integer(held[y]) or not is_integer(held[z]):
        return FAULT
    return ("go", to) if held[y] < held[z] else NOTHING


def effect_of_go(world, held, row):
    """Another row comes next."""
    return row


def effect_of_show(world, held, row):
    """What a register holds is shown."""
    _, y = row
    return "show", held[y]


EFFECTS = {
    "set": effect_of_set, "copy": effect_of_copy, "add": effect_of_add, "load": effect_of_load,
    "make": effect_of_make, "kind": effect_of_kind, "write": effect_of_write, "read": effect_of_read,
    "is": effect_of_is, "less": effect_of_less, "go": effect_of_go, "show": effect_of_show,
}


def effect_of(world, held, row):
    """The effect of a row of a program."""
    action = EFFECTS[row[0]]
    return action(world, held, row)

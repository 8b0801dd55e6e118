"""Images: the lines of all that a machine is, and the sum that tells whether they are whole."""

from latekinds.masks import members
from latekinds.words import joined

SUM_BOUND = 999983


def fields_of(world, kind):
    """The pairs of a kind and of the number of a field that it brings, of all fields of an object of a kind."""
    ground = world.ground
    brought = members(ground.standing.known.above[kind])
    return [(elder, field) for elder in brought for field in range(ground.fields[elder])]


def value_word(value):
    """The word of an integer, a kind or an object."""
    if isinstance(value, tuple):
        word, number = value
        return f"{word[0]}{number}"
    return str(value)


def values_line(head, values):
    """The line of the head and of the words of all values."""
    return " ".join([head] + [value_word(value) for value in values])


def kind_lines(world):
    """A line for each kind."""
    lines = []
    for many, parents in zip(world.ground.fields, world.ground.standing.known.parents):
        row = joined([str(parent) for parent in parents])
        lines.append(f"kind {many} {row}")
    return lines


def object_lines(world):
    """A line for each object."""
    lines = []
    for thing, kind in enumerate(world.kinds_of):
        values = [world.read(thing, elder, field) for elder, field in fields_of(world, kind)]
        lines.append(values_line(f"object {kind}", values))
    return lines


def course_lines(course):
    """All lines of an image but that of the sum."""
    world = course.world
    lines = [f"image {len(world.ground.fields)} {len(world.kinds_of)}"]
    lines.extend(kind_lines(world))
    lines.extend(object_lines(world))
    lines.append(f"row {course.row} fault" if course.faulted else f"row {course.row}")
    lines.append(values_line("shown", course.seen))
    lines.append(values_line("held", course.held))
    return lines


def sum_of(text):
    """The sum over all signs of a sign's number times its place, within the bound."""
    found = 0
    for at, sign in enumerate(text):
        found += ord(sign) * (at + 1)
    return found % SUM_BOUND

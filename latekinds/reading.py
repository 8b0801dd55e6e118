"""Reading images: line by line, each refused by its number if it is not so or not right."""

from latekinds.books import MOST_KINDS, is_parents
from latekinds.courses import MANY_REGISTERS
from latekinds.effects import MOST_SUM
from latekinds.errors import BadText
from latekinds.fields import MOST_FIELDS
from latekinds.imaging import fields_of, sum_of
from latekinds.plainly import MOST_OBJECTS
from latekinds.words import is_signed, is_upto, parted

VALUE_FIGURES = 19


class Reading:
    """A text of which `done` lines were read; of an image of so many kinds and objects."""

    def __init__(self, text):
        self.lines = text.split("\n")
        self.done = 0
        self.many_kinds = 0
        self.many_objects = 0

    def words_behind(self, head):
        """The words of the next line behind its first one, which must be this one."""
        if self.done == len(self.lines) - 1:
            raise BadText(self.done + 1)
        self.done += 1
        word, *words = self.lines[self.done - 1].split(" ")
        self.check(word == head)
        return words

    def check(self, right):
        """Refuses the line that was read last if it is not right."""
        if not right:
            raise BadText(self.done)

    def check_closed(self):
        """Refuses what stands behind the line that was read last."""
        if self.lines[self.done:] != [""]:
            raise BadText(self.done + 1)

    def number(self, word, high):
        """The integer from 0 to high that the word is."""
        self.check(is_upto(word, high))
        return int(word)

    def value(self, word):
        """The integer, the kind or the object that the word is."""
        if word.startswith("k"):
            return "kind", self.number(word[1:], self.many_kinds - 1)
        if word.startswith("o"):
            return "object", self.number(word[1:], self.many_objects - 1)
        self.check(is_signed(word, VALUE_FIGURES) and -MOST_SUM <= int(word) <= MOST_SUM)
        return int(word)

    def values_behind(self, head):
        """All values of the next line behind its first word, which must be this one."""
        return [self.value(word) for word in self.words_behind(head)]


def read_counts(reading):
    """Reads how many kinds and objects there are."""
    words = reading.words_behind("image")
    reading.check(len(words) == 2)
    reading.many_kinds = reading.number(words[0], MOST_KINDS)
    reading.many_objects = reading.number(words[1], MOST_OBJECTS)


def read_kind(reading, world):
    """Reads a kind into the world."""
    words = reading.words_behind("kind")
    reading.check(len(words) == 2)
    many = reading.number(words[0], MOST_FIELDS)
    kind = world.ground.standing.many()
    parents = tuple([reading.number(word, kind - 1) for word in parted(words[1])])
    reading.check(is_parents(parents, kind))
    world.load(parents, many)


def read_object(reading, world):
    """Reads an object into the world."""
    words = reading.words_behind("object")
    reading.check(len(words) > 0)
    kind = reading.number(words[0], reading.many_kinds - 1)
    values = [reading.value(word) for word in words[1:]]
    lie = fields_of(world, kind)
    reading.check(len(values) == len(lie))
    thing = world.make(kind)
    for (brought, field), value in zip(lie, values):
        world.write(thing, brought, field, value)


def read_row(reading, course):
    """Reads which row comes next, or faulted."""
    words = reading.words_behind("row")
    last = len(course.program)
    if len(words) == 2:
        reading.check(words[1] == "fault")
        course.faulted = True
        last -= 1
    reading.check(0 < len(words) <= 2)
    course.row = reading.number(words[0], last)


def read_held(reading, course):
    """Reads what the registers hold."""
    values = reading.values_behind("held")
    reading.check(len(values) == MANY_REGISTERS)
    course.held = tuple(values)


def read_sum(reading):
    """Reads the sum over all lines ahead."""
    words = reading.words_behind("sum")
    ahead = "".join([line + "\n" for line in reading.lines[:reading.done - 1]])
    reading.check(words == [str(sum_of(ahead))])

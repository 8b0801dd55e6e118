"""Machines: programs that are done by what was given to kinds alone, step by step, while others load kinds."""

from latekinds.books import is_parents
from latekinds.checks import is_number
from latekinds.courses import Course
from latekinds.errors import BadKind, NoObject, NothingDone
from latekinds.fields import MOST_FIELDS, check_fields
from latekinds.grounds import Arms
from latekinds.programs import check_most, check_program
from latekinds.worlds import World


def laid(book, fields):
    """The places of the fields of all kinds."""
    check_fields(book, fields)
    arms = Arms()
    for parents, many in zip(book.parents, fields):
        arms.take(parents, many)
    return tuple(arms.stacking.places)


class Machine:
    """A program on its `course`; `done` keeps what was there ahead of each step and each load, to be put back."""

    def __init__(self, program):
        check_program(program)
        self.course = Course(program, World())
        self.done = []

    def step(self):
        """Does the next row; whether there was one."""
        if self.course.is_over():
            return False
        effect = self.course.effect()
        self.keep(effect)
        self.course.carry_out(effect)
        return True

    def keep(self, effect):
        """Keeps what is there ahead of an effect."""
        course = self.course
        world = course.world
        elder = None
        if effect[0] == "write":
            thing, kind, field = effect[1:4]
            elder = (thing, kind, field, world.read(thing, kind, field))
        counts = (len(world.kinds_of), len(course.seen))
        self.done.append((course.row, course.faulted, course.held, world.ground, counts, elder))

    def go(self, most):
        """Does rows as long as there are some, up to so many; how many were done."""
        check_most(most)
        for many in range(most):
            if not self.step():
                return many
        return most

    def shown(self):
        """The list of the values that were shown."""
        return self.course.shown_values()

    def end(self):
        """How it ended, or the row that comes next."""
        return self.course.ending("next")

    def load(self, parents, fields):
        """Somebody else loads a kind that brings so many fields; its number."""
        world = self.course.world
        if not is_parents(parents, world.ground.standing.many()) or not is_number(fields, 0, MOST_FIELDS):
            raise BadKind()
        if not world.may_load():
            raise BadKind()
        self.keep(("load",))
        return world.load(parents, fields)

    def kinds(self):
        """The book of all kinds, and how many fields each brings."""
        ground = self.course.world.ground
        return ground.standing.known, ground.fields

    def given(self, kind):
        """The slot, the number and the row that the kind was given."""
        return self.course.world.ground.standing.given(kind)

    def memory(self, o):
        """What the places of an object hold, arm by arm."""
        memories = self.course.world.memories
        if not is_number(o, 0, len(memories) - 1):
            raise NoObject()
        return tuple([tuple(arm) for arm in memories[o]])

    def back(self):
        """Takes the last step or load back."""
        if not self.done:
            raise NothingDone()
        course = self.course
        world = course.world
        course.row, course.faulted, course.held, world.ground, counts, elder = self.done.pop()
        many_objects, many_shown = counts
        if len(world.kinds_of) > many_objects:
            world.drop_object()
        if len(course.seen) > many_shown:
            course.seen.pop()
        if elder is not None:
            thing, kind, field, value = elder
            world.write(thing, kind, field, value)

    def copy(self):
        """Another machine that goes on apart."""
        twin = Machine(self.course.program)
        twin.course = self.course.copied()
        twin.done = list(self.done)
        return twin

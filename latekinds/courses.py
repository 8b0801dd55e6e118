"""Courses: programs on their way, row by row, over a world that keeps their kinds and objects."""

from latekinds.effects import effect_of

MANY_REGISTERS = 10


class Course:
    """Which `row` comes next, or `faulted`; what the registers hold, in `held`, and what was shown, in `seen`."""

    def __init__(self, program, world):
        self.program = program
        self.world = world
        self.row = 0
        self.faulted = False
        self.held = (0,) * MANY_REGISTERS
        self.seen = []

    def copied(self):
        """Another one that goes on apart."""
        twin = Course(self.program, self.world.copied())
        twin.row = self.row
        twin.faulted = self.faulted
        twin.held = self.held
        twin.seen = list(self.seen)
        return twin

    def is_over(self):
        """Whether no row is done any more."""
        return self.faulted or self.row == len(self.program)

    def ending(self, word):
        """How it ends, or the word and the row that comes next."""
        if self.faulted:
            return "fault", self.row
        return ("end",) if self.is_over() else (word, self.row)

    def shown_values(self):
        """The list of what was shown."""
        return list(self.seen)

    def effect(self):
        """What the next row is to do."""
        return effect_of(self.world, self.held, self.program[self.row])

    def hold(self, x, value):
        """The register holds the value from now on."""
        self.held = self.held[:x] + (value,) + self.held[x + 1:]

    def carry_out(self, effect):
        """Does what the next row is to do."""
        word, *parts = effect
        if word == "fault":
            self.faulted = True
            return
        if word == "hold":
            self.hold(parts[0], parts[1])
        elif word == "load":
            self.hold(parts[0], ("kind", self.world.load(parts[1], parts[2])))
        elif word == "make":
            self.hold(parts[0], ("object", self.world.make(parts[1])))
        elif word == "write":
            self.world.write(parts[0], parts[1], parts[2], parts[3])
        elif word == "show":
            self.seen.append(parts[0])
        self.row = parts[0] if word == "go" else self.row + 1

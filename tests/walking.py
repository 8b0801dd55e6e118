"""A slow plain way to do programs and machines, programs drawn by a seed, and texts of images written by hand."""

import copy
from types import SimpleNamespace

from latekinds.books import Book
from tests.helpers import walked_all
from tests.test_rule import by_hand

GREAT = 10 ** 18


class Fault(Exception):
    pass


class Walk:
    """Does a program row by row, as the document's words say, walking along parents to tell who is what."""

    def __init__(self, program):
        self.program = program
        self.registers = [0] * 10
        self.parents = []
        self.fields = []
        self.objects = []
        self.shown = []
        self.row = 0
        self.fault = False
        self.kept = []

    def end(self, word="next"):
        if self.fault:
            return "fault", self.row
        return ("end",) if self.row == len(self.program) else (word, self.row)

    def is_over(self):
        return self.end()[0] != "next"

    def remember(self):
        kept, self.kept = self.kept, []
        twin = copy.deepcopy(self)
        self.kept = kept + [twin]

    def back(self):
        *kept, twin = self.kept
        vars(self).update(copy.deepcopy(vars(twin)))
        self.kept = kept

    def step(self):
        """Does the next row; whether there was one."""
        if self.is_over():
            return False
        try:
            self.row = self.done(*self.program[self.row])
        except Fault:
            self.fault = True
        return True

    def load(self, parents, fields):
        """Somebody else loads a kind."""
        self.parents.append(tuple(parents))
        self.fields.append(fields)
        return len(self.parents) - 1

    def above(self, kind):
        seen, pending = {kind}, [kind]
        while pending:
            for parent in self.parents[pending.pop()]:
                if parent not in seen:
                    seen.add(parent)
                    pending.append(parent)
        return seen

    def holds(self, x, sort):
        value = self.registers[x]
        if sort == "integer":
            if not isinstance(value, int):
                raise Fault()
            return value
        if isinstance(value, int) or value[0] != sort:
            raise Fault()
        return value[1]

    def place(self, y, z, field):
        """The dict that keeps a field of the object in y, and its key there."""
        o, kind = self.holds(y, "object"), self.holds(z, "kind")
        if kind not in self.above(self.objects[o][0]) or field >= self.fields[kind]:
            raise Fault()
        return self.objects[o][1], (kind, field)

    def done(self, word, *parts):
        """Does a row; the number of the next one."""
        registers = self.registers
        following = self.row + 1
        if word == "set":
            registers[parts[0]] = parts[1]
        elif word == "copy":
            registers[parts[0]] = registers[parts[1]]
        elif word == "add":
            total = self.holds(parts[1], "integer") + self.holds(parts[2], "integer")
            if abs(total) > GREAT:
                raise Fault()
            registers[parts[0]] = total
        elif word == "load":
            kinds = [self.holds(x, "kind") for x in parts[1]]
            if len(set(kinds)) < len(kinds) or len(self.parents) == 400:
                raise Fault()
            registers[parts[0]] = ("kind", self.load(sorted(kinds), parts[2]))
        elif word == "make":
            kind = self.holds(parts[1], "kind")
            if len(self.objects) == 2000:
                raise Fault()
            held = {(up, field): 0 for up in sorted(self.above(kind)) for field in range(self.fields[up])}
            self.objects.append((kind, held))
            registers[parts[0]] = ("object", len(self.objects) - 1)
        elif word == "kind":
            registers[parts[0]] = ("kind", self.objects[self.holds(parts[1], "object")][0])
        elif word == "write":
            held, key = self.place(*parts[:3])
            held[key] = registers[parts[3]]
        elif word == "read":
            held, key = self.place(*parts[1:])
            registers[parts[0]] = held[key]
        elif word == "is":
            o, kind = self.holds(parts[0], "object"), self.holds(parts[1], "kind")
            following = parts[2] if kind in self.above(self.objects[o][0]) else following
        elif word == "less":
            one, other = self.holds(parts[0], "integer"), self.holds(parts[1], "integer")
            following = parts[2] if one < other else following
        elif word == "go":
            following = parts[0]
        else:
            assert word == "show"
            self.shown.append(registers[parts[0]])
        return following

    def book(self):
        return Book(tuple(self.parents))

    def memory(self, o):
        """What the object holds, arm by arm, by the places that are laid by hand."""
        kind, held = self.objects[o]
        places = laid_by_hand(self.book(), tuple(self.fields))
        there = {places[up][field]: value for (up, field), value in held.items()}
        arms = max([arm for arm, _ in there], default=-1) + 1
        rows = [sorted((index, value) for (where, index), value in there.items() if where == arm) for arm in range(arms)]
        assert all([index for index, _ in row] == list(range(len(row))) for row in rows) and kind >= 0
        return tuple(tuple(value for _, value in row) for row in rows)

    def image(self):
        """The text of all that it is."""
        lines = [f"image {len(self.parents)} {len(self.objects)}"]
        for parents, fields in zip(self.parents, self.fields):
            lines.append(f"kind {fields} " + (",".join(map(str, parents)) if parents else "-"))
        for kind, held in self.objects:
            lines.append(" ".join(["object", str(kind)] + [worded(held[key]) for key in sorted(held)]))
        lines.append(f"row {self.row}" + (" fault" if self.fault else ""))
        lines.append(" ".join(["shown"] + [worded(value) for value in self.shown]))
        lines.append(" ".join(["held"] + [worded(value) for value in self.registers]))
        return with_sum("\n".join(lines) + "\n")


def worded(value):
    if isinstance(value, int):
        return str(value)
    return {"kind": "k", "object": "o"}[value[0]] + str(value[1])


def with_sum(text):
    """The lines with the right line of the sum behind them."""
    total = 0
    for at, sign in enumerate(text, 1):
        total += at * ord(sign)
    return f"{text}sum {total % 999983}\n"


def laid_by_hand(book, fields):
    """The places of all fields, as 14.1 says."""
    ups = walked_all(book)
    bringing = [kind for kind, many in enumerate(fields) if many]
    number = {kind: at for at, kind in enumerate(bringing)}
    rows = tuple(tuple(number[up] for up in sorted(ups[kind] - {kind}) if up in number) for kind in bringing)
    arms = dict(zip(bringing, [triple[0] for triple in by_hand(SimpleNamespace(parents=rows))[0]]))
    places = []
    for kind, many in enumerate(fields):
        ahead = sum(fields[up] for up in ups[kind] - {kind} if many and arms.get(up) == arms[kind])
        places.append(tuple((arms[kind], ahead + field) for field in range(many)))
    return tuple(places)


def run_by_hand(program, most):
    walk = Walk(program)
    for _ in range(most):
        if not walk.step():
            break
    return walk.shown, walk.end("most")


class Drawing:
    """Draws a program: rows that mostly find in the registers what they need."""

    def __init__(self, draw, many, wrong=30):
        self.draw = draw
        self.many = many
        self.wrong = wrong
        self.sorts = ["integer"] * 10
        self.rows = []

    def program(self):
        while len(self.rows) < self.many:
            word = self.draw.choice(
                "set copy add load load load make make kind write write write read read is less go show show".split())
            row = self.row(word)
            if row is not None:
                self.rows.append(row)
        return tuple(self.rows)

    def some(self, sort):
        """A register that is thought to hold such a value; at times another one."""
        fitting = [x for x in range(10) if self.sorts[x] == sort]
        if not fitting or self.draw.randrange(self.wrong) == 0:
            return self.draw.randrange(10)
        return self.draw.choice(fitting)

    def to(self):
        if self.draw.randrange(4):
            return min(self.many, len(self.rows) + self.draw.randint(1, 4))
        return self.draw.randint(0, self.many)

    def gets(self, sort):
        x = self.draw.randrange(10)
        self.sorts[x] = sort
        return x

    def row(self, word):
        draw = self.draw
        if word in ("kind", "write", "read", "is") and "object" not in self.sorts or (
                word == "make" and "kind" not in self.sorts):
            return None
        if word == "set":
            number = draw.choice([draw.randint(-3, 3), 10 ** 9, -10 ** 9])
            return word, self.gets("integer"), number
        if word == "copy":
            y = draw.randrange(10)
            return word, self.gets(self.sorts[y]), y
        if word == "add":
            y, z = self.some("integer"), self.some("integer")
            return word, self.gets("integer"), y, z
        if word == "load":
            kinds = [x for x in range(10) if self.sorts[x] == "kind"]
            parents = draw.sample(kinds, min(len(kinds), draw.randrange(4)))
            if draw.randrange(self.wrong) == 0:
                parents.append(draw.randrange(10))
            return word, self.gets("kind"), tuple(parents), draw.choice([0, 1, 1, 2, 2, 6])
        if word == "make":
            y = self.some("kind")
            return word, self.gets("object"), y
        if word == "kind":
            y = self.some("object")
            return word, self.gets("kind"), y
        if word == "write":
            return word, self.some("object"), self.some("kind"), draw.randrange(2), draw.randrange(10)
        if word == "read":
            y, z = self.some("object"), self.some("kind")
            return word, self.gets("integer"), y, z, draw.randrange(2)
        if word == "is":
            return word, self.some("object"), self.some("kind"), self.to()
        if word == "less":
            return word, self.some("integer"), self.some("integer"), self.to()
        if word == "go":
            return word, self.to()
        return word, draw.randrange(10)


def drawn_program(draw, many, wrong=30):
    return Drawing(draw, many, wrong).program()


# Rows that make objects and fill fields of kinds of several arms without a fault.
STEADY = (
    ("load", 0, (), 2), ("load", 1, (0,), 1), ("load", 2, (0,), 1), ("load", 3, (2, 1), 0), ("make", 4, 3),
    ("set", 5, 7), ("write", 4, 0, 1, 5), ("write", 4, 1, 0, 4), ("write", 4, 2, 0, 3), ("read", 6, 4, 2, 0),
    ("show", 6), ("is", 4, 1, 13), ("show", 0), ("kind", 7, 4), ("make", 8, 7), ("write", 8, 7, 0, 5),
)
# Loads kinds in a row for ever, each with an object: three rows, and then again.
GROWING = (("load", 0, (), 1), ("load", 0, (0,), 0), ("make", 1, 0), ("go", 1))
# Counts for ever.
COUNTING = (("set", 1, 1), ("add", 0, 0, 1), ("go", 1))

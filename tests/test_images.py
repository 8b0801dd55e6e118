import unittest
from random import Random

from latekinds.errors import BadText, NoProgram, NothingDone, NothingWhole
from latekinds.images import image, recovered, restored
from latekinds.machines import Machine
from tests.helpers import odd_numbers, odd_things, odd_tuples
from tests.test_machines import drawn_load, told
from tests.test_texts import SIGNS, is_plain
from tests.walking import COUNTING, GREAT, GROWING, STEADY, Walk, drawn_program, with_sum

NO_STRINGS = [thing for thing in odd_things() + odd_tuples() + odd_numbers() if not isinstance(thing, str)]

# An image of STEADY that holds something of each sort.
LINES = (
    "image 4 2", "kind 2 -", "kind 1 0", "kind 1 0", "kind 0 1,2", "object 3 0 7 o0 k3", "object 1 -5 0 k0", "row 12",
    "shown k3 1000000000000000000 -1000000000000000000 o1 0", "held k0 k1 k2 k3 o0 7 k3 0 -12 0",
)
ROWS = 16


def text_of(lines):
    return with_sum("".join(line + "\n" for line in lines))


def machine_at(draw, program, many):
    """A machine that went so many steps, others having loaded kinds between them."""
    machine = Machine(program)
    for _ in range(many):
        if draw.randrange(5) == 0:
            machine.load(*drawn_load(draw, len(machine.kinds()[1])))
        machine.step()
    return machine


def is_value(word, kinds, objects):
    if word[:1] in ("k", "o"):
        return is_plain(word[1:], 4) and int(word[1:]) < (kinds if word[0] == "k" else objects)
    digits = word[1:] if word[:1] == "-" else word
    return word != "-0" and is_plain(digits, 19) and int(digits) <= GREAT


def wrong_line(text, rows):
    """The number of the first line of a text that is not so or not right, None for a whole image."""
    *lines, behind = text.split("\n")
    if not lines:
        return 1
    head = lines[0].split(" ")
    if len(head) != 3 or head[0] != "image" or not is_plain(head[1], 4) or not is_plain(head[2], 4):
        return 1
    kinds, objects = int(head[1]), int(head[2])
    if kinds > 400 or objects > 2000:
        return 1
    walk = Walk(())
    wanted = 1 + kinds + objects + 4
    for at, line in enumerate(lines[1:], 2):
        if at > wanted or not is_right_line(line, at - 2, kinds, objects, rows, walk, lines):
            return at
    return len(lines) + 1 if len(lines) < wanted or behind else None


def is_right_line(line, at, kinds, objects, rows, walk, lines):
    head, *words = line.split(" ")
    if at < kinds:
        if head != "kind" or len(words) != 2 or words[0] not in list("0123456"):
            return False
        parents = [] if words[1] == "-" else words[1].split(",")
        if not all(is_plain(word, 4) and int(word) < at for word in parents):
            return False
        walk.load(tuple(map(int, parents)), int(words[0]))
        return list(map(int, parents)) == sorted(set(map(int, parents))) and len(parents) <= 6
    if at < kinds + objects:
        if head != "object" or not words or not is_plain(words[0], 4) or int(words[0]) >= kinds:
            return False
        many = sum(walk.fields[up] for up in walk.above(int(words[0])))
        return len(words) == 1 + many and all(is_value(word, kinds, objects) for word in words[1:])
    place = at - kinds - objects
    if place == 0:
        if head != "row" or len(words) not in (1, 2) or words[1:] not in ([], ["fault"]) or not is_plain(words[0], 4):
            return False
        return int(words[0]) <= rows - (len(words) == 2)
    if place < 3:
        if head != ("shown", "held")[place - 1] or place == 2 and len(words) != 10:
            return False
        return all(is_value(word, kinds, objects) for word in words)
    ahead = "".join(row + "\n" for row in lines[:at + 1])
    return with_sum(ahead) == ahead + line + "\n"


class Case(unittest.TestCase):
    def refused(self, program, text, line):
        with self.assertRaises(BadText, msg=repr(text)) as caught:
            restored(program, text)
        self.assertEqual(caught.exception.line, line, repr(text))

    def held_against(self, program, text):
        """Whether the text is taken, behind holding it against the words of the document."""
        line = wrong_line(text, len(program))
        if line is None:
            self.assertEqual(image(restored(program, text)), text)
        else:
            self.refused(program, text, line)
        return line is None


class Images(Case):
    def test_written_by_hand(self):
        draw = Random(1)
        for seed in range(60):
            program = drawn_program(draw, draw.randint(1, 40), draw.choice([10, 60, 500]))
            machine, walk = Machine(program), Walk(program)
            for _ in range(40):
                if draw.randrange(6) == 0:
                    parents, fields = drawn_load(draw, len(walk.parents))
                    machine.load(parents, fields)
                    walk.load(parents, fields)
                self.assertEqual(image(machine), walk.image())
                machine.step()
                walk.step()
            self.assertEqual(image(machine), walk.image())

    def test_known(self):
        machine = Machine(STEADY)
        self.assertEqual(image(machine), text_of(("image 0 0", "row 0", "shown", "held" + " 0" * 10)))
        self.assertEqual(image(Machine(())), "image 0 0\nrow 0\nshown\nheld 0 0 0 0 0 0 0 0 0 0\nsum 59020\n")
        machine.go(99)
        self.assertEqual(image(machine), text_of((
            "image 4 2", "kind 2 -", "kind 1 0", "kind 1 0", "kind 0 1,2", "object 3 0 7 o0 k3", "object 3 0 0 0 0",
            "row 15 fault", "shown k3", "held k0 k1 k2 k3 o0 7 k3 k3 o1 0",
        )))

    def test_what_can_be_taken_back_is_not_in_it(self):
        machine = Machine(STEADY)
        machine.go(9)
        text = image(machine)
        machine.step()
        machine.load((0,), 2)
        machine.back()
        machine.back()
        self.assertEqual(image(machine), text)
        self.assertEqual(image(machine.copy()), text)


class Restored(Case):
    def test_goes_on_alike(self):
        draw = Random(2)
        for seed in range(60):
            program = drawn_program(draw, 40, draw.choice([10, 60, 500]))
            machine = machine_at(draw, program, draw.randrange(30))
            text = image(machine)
            twin = restored(program, text)
            self.assertIsInstance(twin, Machine)
            self.assertEqual(told(twin), told(machine))
            self.assertRaises(NothingDone, twin.back)
            for _ in range(15):
                if draw.randrange(5) == 0:
                    parents, fields = drawn_load(draw, len(machine.kinds()[1]))
                    self.assertEqual(twin.load(parents, fields), machine.load(parents, fields))
                self.assertIs(twin.step(), machine.step())
                self.assertEqual(told(twin), told(machine))
            while True:
                try:
                    twin.back()
                except NothingDone:
                    break
            self.assertEqual(image(twin), text)

    def test_whatever_it_tells(self):
        machine = restored(STEADY, text_of(LINES))
        self.assertEqual(machine.end(), ("next", 12))
        self.assertEqual(machine.shown(), [("kind", 3), GREAT, -GREAT, ("object", 1), 0])
        self.assertEqual(machine.memory(0), ((0, 7, ("object", 0)), (("kind", 3),)))
        self.assertEqual(machine.memory(1), ((-5, 0, ("kind", 0)),))
        self.assertEqual(image(machine), text_of(LINES))
        self.assertEqual((machine.step(), machine.shown()[-1]), (True, ("kind", 0)))

    def test_long_runs(self):
        machine = Machine(GROWING)
        machine.go(1100)
        twin = restored(GROWING, image(machine))
        machine.go(20000)
        twin.go(20000)
        self.assertEqual(told(twin), told(machine))
        for program in (COUNTING[:2] + (("show", 0), ("go", 1)), (("load", 0, (), 6), ("make", 1, 0), ("go", 1))):
            machine = Machine(program)
            machine.go(20000)
            text = image(machine)
            twin = restored(program, text)
            self.assertEqual(image(twin), text)
            self.assertEqual((twin.shown(), twin.end()), (machine.shown(), machine.end()))

    def test_each_beginning_is_refused(self):
        for program, text in ((STEADY, text_of(LINES)), (COUNTING, image(Machine(COUNTING)))):
            self.assertTrue(self.held_against(program, text))
            for many in range(len(text)):
                self.assertFalse(self.held_against(program, text[:many]))
                self.refused(program, text[:many], text[:many].count("\n") + 1)
        draw = Random(3)
        for seed in range(10):
            program = drawn_program(draw, 30, 60)
            text = image(machine_at(draw, program, 20))
            for many in range(len(text)):
                self.refused(program, text[:many], text[:many].count("\n") + 1)

    def test_no_string(self):
        for thing in NO_STRINGS:
            self.refused(STEADY, thing, 0)

    def test_no_program_ahead_of_all(self):
        for thing in NO_STRINGS:
            if thing != ():
                for text in (None, "", text_of(LINES)):
                    self.assertRaises(NoProgram, restored, thing, text)
                    self.assertRaises(NoProgram, recovered, thing, text, text)


class Changed(Case):
    def test_one_sign(self):
        draw = Random(4)
        text = text_of(LINES)
        for at in range(len(text) + 1):
            for sign in draw.sample(SIGNS, 4) + ["0", "1", " ", "\n"]:
                for changed in (text[:at] + sign + text[at + 1:], text[:at] + sign + text[at:]):
                    self.assertIs(self.held_against(STEADY, changed), changed == text)
            changed = text[:at] + text[at + 1:]
            self.assertIs(self.held_against(STEADY, changed), changed == text)

    def test_one_sign_with_the_sum_made_anew(self):
        draw = Random(5)
        taken = 0
        ahead = text_of(LINES).rpartition("sum")[0]
        for at in range(len(ahead)):
            for sign in draw.sample(SIGNS, 3) + list("0159-, ko\n"):
                for changed in (ahead[:at] + sign + ahead[at + 1:], ahead[:at] + sign + ahead[at:], ahead[:at] + ahead[at + 1:]):
                    taken += self.held_against(STEADY, with_sum(changed))
        self.assertGreater(taken, 100)

    def test_lines_exchanged_left_out_and_doubled(self):
        for one in range(len(LINES)):
            for other in range(len(LINES)):
                lines = list(LINES)
                lines[one], lines[other] = lines[other], lines[one]
                # Two objects may stand the other way round, too.
                alike = one == other or {one, other} in ({2, 3}, {5, 6})
                self.assertIs(self.held_against(STEADY, text_of(lines)), alike)
                lines[one] = LINES[other]
                self.held_against(STEADY, text_of(lines))
            self.assertFalse(self.held_against(STEADY, text_of(LINES[:one] + LINES[one + 1:])))
            self.assertFalse(self.held_against(STEADY, text_of(LINES[:one] + LINES[one:one + 1] + LINES[one:])))

    def test_numbers_out_of_their_bounds(self):
        for at, line, right in (
            (0, "image 401 2", False), (0, "image 4 2001", False), (0, "image 04 2", False), (0, "image 4 -2", False),
            (0, "image 4", False), (0, "image 4 2 0", False), (0, "image  4 2", False), (0, "Image 4 2", False), (0, "", False),
            (0, "image 99999999999999999999 2", False), (0, "image " + "9" * 9999 + " 2", False),
            (1, "kind 6 -", False), (1, "kind 7 -", False), (1, "kind 2 0", False), (1, "kind 2", False), (1, "kind 2 ", False),
            (1, "kind 02 -", False), (1, "kind 2 - ", False), (1, "kind 2 --", False), (1, "kind -2 -", False),
            (2, "kind 1 1", False), (2, "kind 1 -", False), (2, "kind 1 00", False), (2, "kind 1 0,", False), (2, "kind 1 0,0", False),
            (3, "kind 1 0,1", True), (3, "kind 1 0,2", False), (3, "kind 1 1,0", False), (4, "kind 0 0,1,2", True), (4, "kind 0 1,2,3", False),
            (4, "kind 0 2,1", False), (4, "kind 0 1,,2", False), (4, "kind 0 1, 2", False), (4, "kind 0 1,1,2", False),
            (5, "object 4 0 7 o0 k3", False), (5, "object 3 0 7 o0", False), (5, "object 3 0 7 o0 k3 0", False), (5, "object", False),
            (5, "object 3 0 7 o2 k3", False), (5, "object 3 0 7 o1 k3", True), (5, "object 3 0 7 o0 k4", False),
            (5, "object 3 -0 7 o0 k3", False), (5, "object 3 00 7 o0 k3", False), (5, "object 3 x 7 o0 k3", False),
            (5, "object 3 0 7 o k3", False), (5, "object 3 0 7 o-1 k3", False), (5, "object 3 0 7 o00 k3", False),
            (5, f"object 3 {GREAT} {-GREAT} o0 k3", True), (5, f"object 3 {GREAT + 1} 7 o0 k3", False),
            (5, f"object 3 {-GREAT - 1} 7 o0 k3", False), (5, "object 2 0 7 9", True), (5, "object -1 0 7 o0 k3", False),
            (7, "row 16", True), (7, "row 17", False), (7, "row 16 fault", False), (7, "row 15 fault", True), (7, "row 0", True),
            (7, "row", False), (7, "row ", False), (7, "row -1", False), (7, "row 012", False), (7, "row 12 faults", False),
            (7, "row 12 ", False), (7, "row 12 fault fault", False), (7, "row fault", False), (7, "row 0 fault", True),
            (8, "shown", True), (8, "shown ", False), (8, "shown k4", False), (8, "shown o2", False), (8, "shown k3 o1", True),
            (8, f"shown {GREAT + 1}", False), (8, "shown 1  2", False), (8, "held 1", False), (8, "shown" + " 7" * 4000, True),
            (9, "held" + " 0" * 9, False), (9, "held" + " 0" * 11, False), (9, "held" + " 0" * 10, True), (9, "held" + " k0" * 10, True),
            (9, "held" + " k4" * 10, False), (9, "held" + " o1" * 10, True), (9, "held" + " o2" * 10, False), (9, "held", False),
            (9, "held k k1 k2 k3 o0 7 k3 0 -12 0", False), (9, "held K0 k1 k2 k3 o0 7 k3 0 -12 0", False),
        ):
            text = text_of(LINES[:at] + (line,) + LINES[at + 1:])
            self.assertIs(self.held_against(STEADY, text), right, line)
            if not right and not line.startswith("kind 1 -") and not line.startswith("kind 6"):
                self.refused(STEADY, text, at + 1)

    def test_sums(self):
        ahead, _, end = text_of(LINES).rpartition("sum ")
        number = int(end)
        for line in (
            f"sum {number + 1}", f"sum {number - 1}", f"sum 0{number}", f"sum -{number}", f"sum {number + 999983}", "sum", "sum ",
            f"sum {number} ", f"sum  {number}", f"Sum {number}", f"sum {number} 0", "sum " + "9" * 9000, str(number),
        ):
            self.refused(STEADY, f"{ahead}{line}\n", 11)
            self.refused(STEADY, f"{ahead}{line}\nx", 11)
        self.refused(STEADY, f"{ahead}sum {number}", 11)
        self.refused(STEADY, f"{ahead}sum {number}\n0", 12)
        self.refused(STEADY, f"{ahead}sum {number}\n\n", 12)
        self.refused(STEADY, f"{ahead}sum {number}\nsum {number}\n\n\n", 12)
        self.refused(STEADY, f"{ahead}sum {number}\n\nx", 12)

    def test_greatest_numbers(self):
        lines = ("image 400 2000",) + ("kind 0 -",) * 400 + ("object 399",) * 2000 + ("row 0", "shown", "held" + " 0" * 10)
        machine = restored(STEADY, text_of(lines))
        self.assertEqual((len(machine.kinds()[1]), machine.memory(1999)), (400, ()))
        self.assertEqual(image(machine), text_of(lines))
        self.assertIs(machine.step(), True)
        self.assertEqual(machine.end(), ("fault", 0))

    def test_nothing_but_its_rows_is_asked_of_a_program(self):
        self.assertEqual(image(restored((("show", 0),) * 12, text_of(LINES))), text_of(LINES))
        self.refused((("show", 0),) * 11, text_of(LINES), 8)


class Recovered(Case):
    def test_the_newer_one_if_it_is_whole(self):
        draw = Random(6)
        for seed in range(15):
            program = drawn_program(draw, 30, 100)
            machine = machine_at(draw, program, 10)
            older = image(machine)
            machine.go(10)
            machine.load((), 1)
            newer = image(machine)
            self.assertEqual(image(recovered(program, older, newer)), newer)
            self.assertEqual(image(recovered(program, "", newer)), newer)
            self.assertEqual(image(recovered(program, newer, older)), older)
            for _ in range(15):
                cut = newer[:draw.randrange(len(newer))]
                machine = recovered(program, older, cut)
                self.assertEqual(image(machine), older)
                self.assertRaises(NothingDone, machine.back)
                self.assertRaises(NothingWhole, recovered, program, older[:draw.randrange(len(older))], cut)
                self.assertEqual(image(recovered(program, cut, newer)), newer)

    def test_each_beginning(self):
        older, newer = image(Machine(STEADY)), text_of(LINES)
        for many in range(len(newer)):
            self.assertEqual(image(recovered(STEADY, older, newer[:many])), older)
        for many in range(len(older)):
            self.assertRaises(NothingWhole, recovered, STEADY, older[:many], newer[:-1])

    def test_anything(self):
        text = text_of(LINES)
        for thing in NO_STRINGS + ["", "x", text + "\n", text[1:]]:
            self.assertEqual(image(recovered(STEADY, text, thing)), text)
            self.assertEqual(image(recovered(STEADY, thing, text)), text)
            self.assertRaises(NothingWhole, recovered, STEADY, thing, thing)


if __name__ == "__main__":
    unittest.main()

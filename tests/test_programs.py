import unittest
from random import Random

from latekinds.books import Book
from latekinds.errors import NoNumber, NoProgram
from latekinds.programs import check_rows, is_program, run
from tests.helpers import odd_numbers, odd_things, odd_tuples
from tests.walking import COUNTING, GREAT, GROWING, STEADY, drawn_program, run_by_hand

RIGHT = {
    "set": ("set", 9, -5), "copy": ("copy", 0, 9), "add": ("add", 1, 2, 3), "load": ("load", 4, (5, 6), 6),
    "make": ("make", 7, 8), "kind": ("kind", 9, 0), "write": ("write", 1, 2, 5, 3), "read": ("read", 4, 5, 6, 0),
    "is": ("is", 7, 8, 1), "less": ("less", 9, 0, 0), "go": ("go", 1), "show": ("show", 2),
}
# The sort of each part behind the word: a register, an integer, a number or a field's number, registers, a row.
SORTS = {
    "set": "xn", "copy": "xx", "add": "xxx", "load": "xpk", "make": "xx", "kind": "xx", "write": "xxfx", "read": "xxxf",
    "is": "xxt", "less": "xxt", "go": "t", "show": "x",
}
GOOD = {
    "x": (0, 1, 8, 9), "n": (0, 1, -1, 10 ** 9, -10 ** 9), "k": (0, 1, 5, 6), "f": (0, 1, 5), "t": (0, 1),
    "p": ((), (0,), (9, 0), (3, 3), (0, 1, 2, 3, 4, 5), (5, 5, 5, 5, 5, 5)),
}
NEAR = {
    "x": (10, -1), "n": (10 ** 9 + 1, -10 ** 9 - 1), "k": (7, -1), "f": (6, -1), "t": (5, -1),
    "p": ((10,), (-1,), (0, True), (False,), [0], [], (0, 1, 2, 3, 4, 5, 6), 0, (None,), ((0,),), "0", ("0",), {0: 0}),
}
OTHERS = [thing for thing in odd_things() + odd_numbers() if thing != ()] + [
    10 ** 79, -(10 ** 79), ("kind", 0), "goes", "x"]


def judged(thing):
    """Both functions that judge, held against each other."""
    told = check_rows(thing)
    assert is_program(thing) is (told is None)
    return told


class Rows(unittest.TestCase):
    def test_right_ones(self):
        for word, row in RIGHT.items():
            self.assertIsNone(judged((row,)), row)
            for at, sort in enumerate(SORTS[word], 1):
                for part in GOOD[sort]:
                    self.assertIsNone(judged((row[:at] + (part,) + row[at + 1:],)))
        self.assertIsNone(judged(tuple(RIGHT.values())))
        self.assertIsNone(judged(()))

    def test_one_part_changed(self):
        for word, row in RIGHT.items():
            wrong = [row[:-1], row + (0,), row + ((),), row[1:], (), list(row), (word,), word, None, (row,), {0: row}]
            wrong += [(other,) + row[1:] for other in OTHERS]
            wrong += [(other,) + row[1:] for other in (word.upper(), word + " ", word[:-1], "", "reads", b"set", (word,))]
            wrong += [(other,) + row[1:] for other in RIGHT if len(SORTS[other]) != len(SORTS[word])]
            for at, sort in enumerate(SORTS[word], 1):
                for part in [*NEAR[sort], *[None, True, False, "0", (0,), [0], 10 ** 79, -1], *OTHERS]:
                    if sort == "p" and part == (0,) or sort == "n" and type(part) is int and abs(part) <= 10 ** 9:
                        continue
                    if type(part) is int and part in GOOD[sort]:
                        continue
                    wrong.append(row[:at] + (part,) + row[at + 1:])
            for thing in wrong:
                self.assertEqual(judged((thing,)), 0, thing)
                self.assertEqual(judged((RIGHT["go"], thing, RIGHT["go"])), 1)
                self.assertEqual(judged((RIGHT["show"], RIGHT["go"], thing, thing)), 2)

    def test_rows_beyond(self):
        for many in (1, 2, 7, 60):
            for to in range(-1, many + 3):
                for row in (("go", to), ("is", 0, 0, to), ("less", 0, 0, to)):
                    program = (RIGHT["show"],) * (many - 1) + (row,)
                    self.assertEqual(judged(program), None if 0 <= to <= many else many - 1)

    def test_sixty_rows(self):
        self.assertIsNone(judged((RIGHT["show"],) * 60))
        self.assertEqual(judged((RIGHT["show"],) * 61), -1)
        self.assertEqual(judged((None,) * 61), -1)
        self.assertEqual(judged((RIGHT["show"],) * 59 + (None,)), 59)
        self.assertEqual(judged((None,) * 60), 0)

    def test_anything(self):
        for thing in odd_things() + odd_numbers() + [list(STEADY), {0: RIGHT["go"]}, "go", Book(())]:
            if thing != ():
                self.assertEqual(judged(thing), -1)
        for thing in odd_tuples():
            self.assertEqual(judged(thing), -1 if len(thing) > 60 else 0)
            self.assertEqual(judged((RIGHT["go"], thing)), 1)


class Runs(unittest.TestCase):
    def held_by_hand(self, program, most):
        told = run(program, most)
        self.assertEqual(told, run_by_hand(program, most), program)
        self.assertEqual([type(told), type(told[0]), type(told[1])], [tuple, list, tuple])
        return told

    def test_drawn_programs(self):
        draw = Random(1)
        ends = {}
        for seed in range(500):
            program = drawn_program(draw, draw.randint(1, 60), draw.choice([5, 30, 300]))
            for most in (0, 1, 7, 300):
                shown, end = self.held_by_hand(program, most)
            ends[end[0]] = ends.get(end[0], 0) + 1
        self.assertGreater(min(ends[word] for word in ("end", "fault", "most")), 10)

    def test_each_number_of_rows(self):
        draw = Random(2)
        for seed in range(40):
            program = drawn_program(draw, 30, 100)
            for most in range(45):
                self.held_by_hand(program, most)

    def test_known(self):
        program = (
            ("load", 0, (), 1), ("load", 1, (0,), 0), ("make", 2, 1), ("set", 3, 7), ("write", 2, 0, 0, 3),
            ("read", 4, 2, 0, 0), ("show", 4), ("is", 2, 0, 9), ("show", 0),
        )
        self.assertEqual(run(program, 50), ([7], ("end",)))
        self.assertEqual(run((("show", 0), ("load", 0, (), 0), ("show", 0), ("make", 0, 0), ("show", 0)), 9), (
            [0, ("kind", 0), ("object", 0)], ("end",)))
        self.assertEqual(run(STEADY, 99), ([("kind", 3)], ("fault", 15)))

    def test_end_first_then_fault_then_most(self):
        self.assertEqual(run((), 0), ([], ("end",)))
        self.assertEqual(run((("show", 1),), 0), ([], ("most", 0)))
        self.assertEqual(run((("show", 1),), 1), ([0], ("end",)))
        self.assertEqual(run((("make", 0, 0),), 0), ([], ("most", 0)))
        self.assertEqual(run((("make", 0, 0),), 1), ([], ("fault", 0)))
        self.assertEqual(run((("make", 0, 0),), 2), ([], ("fault", 0)))
        self.assertEqual(run((("show", 0), ("make", 0, 0)), 1), ([0], ("most", 1)))
        self.assertEqual(run((("show", 0), ("go", 0)), 3), ([0, 0], ("most", 1)))
        self.assertEqual(run((("go", 1),), 1), ([], ("end",)))
        self.assertEqual(run((("go", 0),), 20000), ([], ("most", 0)))
        self.assertEqual(run((("go", 2), ("make", 0, 0)), 5), ([], ("end",)))

    def test_each_fault(self):
        kinds = (("load", 1, (), 2), ("load", 2, (1,), 0), ("load", 3, (), 6), ("make", 4, 2))
        for row in (
            ("add", 0, 0, 1), ("add", 0, 1, 0), ("add", 0, 4, 4), ("load", 0, (0,), 0), ("load", 0, (1, 4), 0),
            ("load", 0, (1, 1), 0), ("load", 0, (2, 1, 2), 0), ("make", 0, 0), ("make", 0, 4), ("kind", 0, 0), ("kind", 0, 1),
            ("write", 0, 1, 0, 0), ("write", 1, 1, 0, 0), ("write", 4, 0, 0, 0), ("write", 4, 4, 0, 0), ("write", 4, 1, 2, 0),
            ("write", 4, 2, 0, 0), ("write", 4, 3, 0, 0), ("write", 4, 1, 5, 0), ("read", 0, 0, 1, 0), ("read", 0, 4, 0, 0),
            ("read", 0, 4, 1, 2), ("read", 0, 4, 2, 0), ("read", 0, 4, 3, 5), ("read", 0, 1, 4, 0), ("is", 0, 1, 5), ("is", 4, 0, 5),
            ("is", 1, 4, 5), ("less", 0, 1, 5), ("less", 4, 0, 5), ("less", 1, 2, 5),
        ):
            self.assertEqual(self.held_by_hand(kinds + (row, ("show", 4)), 99), ([], ("fault", 4)), row)
        for row in (
            ("add", 0, 0, 0), ("load", 0, (2, 1), 0), ("load", 0, (3, 2, 1), 6), ("make", 0, 1), ("kind", 0, 4), ("copy", 0, 4),
            ("write", 4, 1, 1, 4), ("write", 4, 1, 0, 1), ("read", 0, 4, 1, 1), ("is", 4, 1, 5), ("is", 4, 2, 5), ("is", 4, 3, 5),
            ("less", 0, 0, 5), ("show", 1), ("set", 4, 10 ** 9), ("go", 5),
        ):
            self.assertEqual(self.held_by_hand(kinds + (row, ("set", 5, 0)), 99)[1], ("end",), row)

    def test_sums_at_both_ends(self):
        for sign in (1, -1):
            # 10 ** 9 doubled 29 times is 536870912 * 10 ** 9; the rest is added bit by bit up to 10 ** 18.
            rows = [("set", 0, sign * 10 ** 9), ("set", 1, 0)]
            for bit in range(30):
                if 10 ** 9 >> bit & 1:
                    rows.append(("add", 1, 1, 0))
                if bit < 29:
                    rows.append(("add", 0, 0, 0))
            rows += [("show", 1), ("set", 2, sign), ("set", 3, -sign), ("add", 4, 1, 3), ("add", 5, 4, 2), ("show", 5)]
            self.assertEqual(self.held_by_hand(tuple(rows), 999), ([sign * GREAT, sign * GREAT], ("end",)))
            beyond = rows + [("add", 6, 1, 2), ("show", 0)]
            self.assertEqual(self.held_by_hand(tuple(beyond), 999), ([sign * GREAT] * 2, ("fault", len(rows))))
            with_zero = rows + [("set", 2, 0), ("add", 6, 1, 2), ("show", 6)]
            self.assertEqual(run(tuple(with_zero), 999), ([sign * GREAT] * 3, ("end",)))

    def test_four_hundred_kinds(self):
        program = (("load", 0, (), 1), ("show", 0), ("go", 0))
        shown, end = run(program, 20000)
        self.assertEqual((shown, end), ([("kind", at) for at in range(400)], ("fault", 0)))
        self.assertEqual(run(program, 1200), (shown, ("most", 0)))
        self.assertEqual(run(program, 1201), (shown, ("fault", 0)))

    def test_two_thousand_objects(self):
        program = (("load", 0, (), 6), ("make", 1, 0), ("write", 1, 0, 5, 1), ("read", 2, 1, 0, 5), ("show", 2), ("go", 1))
        shown, end = run(program, 20000)
        self.assertEqual((shown, end), ([("object", at) for at in range(2000)], ("fault", 1)))

    def test_long_runs(self):
        self.assertEqual(run(COUNTING + (), 20000), ([], ("most", 2)))
        counting = COUNTING[:2] + (("show", 0), ("go", 1))
        shown, end = run(counting, 20000)
        self.assertEqual((shown[-1], len(shown), end), (6666, 6666, ("most", 2)))
        self.assertEqual(run(GROWING, 20000), ([], ("fault", 1)))


class Wrong(unittest.TestCase):
    def test_no_program_ahead_of_no_number(self):
        for thing in OTHERS + [(RIGHT["show"],) * 61, (("go", 2),), [("go", 0)], ("show", 0)] + odd_tuples():
            for most in (0, 20000, -1, 20001, None, True):
                self.assertRaises(NoProgram, run, thing, most)
        for most in odd_things() + odd_tuples() + odd_numbers()[:1] + [-1, 20001, 10 ** 79, True, False, "5", (5,)]:
            self.assertRaises(NoNumber, run, STEADY, most)
            self.assertRaises(NoNumber, run, (), most)

    def test_lists_are_new(self):
        one, other = run(STEADY, 99), run(STEADY, 99)
        one[0].append(5)
        self.assertEqual(other, run(STEADY, 99))


if __name__ == "__main__":
    unittest.main()

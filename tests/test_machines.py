import unittest
from random import Random

from latekinds.books import Book, loaded
from latekinds.errors import BadKind, NoFields, NoKind, NoNumber, NoObject, NoProgram, NothingDone
from latekinds.fields import first_hole, is_laying
from latekinds.images import image
from latekinds.machines import Machine, laid
from latekinds.programs import run
from latekinds.rule import told_scheme
from tests.helpers import (
    all_books, drawn_book, drawn_books, flat_book, grid_book, kinds_that_are_none, odd_numbers, odd_things, odd_tuples,
    row_book,
)
from tests.test_fields import no_fields
from tests.test_runtimes import bad_parents
from tests.walking import COUNTING, GROWING, STEADY, Walk, drawn_program, laid_by_hand, run_by_hand

FORK = Book(((), (), (0, 1), (0,)))
NO_NUMBERS = odd_things() + odd_tuples() + odd_numbers()


def told(machine):
    """All that a machine tells of itself."""
    book, fields = machine.kinds()
    given = [machine.given(kind) for kind in range(len(fields))]
    memories = []
    while True:
        try:
            memories.append(machine.memory(len(memories)))
        except NoObject:
            return machine.shown(), machine.end(), book.parents, fields, given, memories, image(machine)


def told_by_hand(walk):
    book = walk.book()
    given = list(told_scheme(book))
    memories = [walk.memory(o) for o in range(len(walk.objects))]
    return walk.shown, walk.end(), book.parents, tuple(walk.fields), given, memories, walk.image()


def drawn_load(draw, many):
    """Parents and a number of fields of a kind to come, behind so many."""
    parents = draw.sample(range(many), min(many, draw.randrange(4)))
    return tuple(sorted(parents)), draw.choice([0, 0, 1, 2, 3])


def without_numbers(values):
    return [value if isinstance(value, int) else value[0] if value[0] == "kind" else value for value in values]


class Case(unittest.TestCase):
    def same(self, machine, walk):
        self.assertEqual(told(machine), told_by_hand(walk))


class Laid(unittest.TestCase):
    def held_by_hand(self, book, fields):
        places = laid(book, fields)
        self.assertEqual(places, laid_by_hand(book, fields))
        arms = {arm for row in places for arm, _ in row}
        self.assertEqual(arms, set(range(len(arms))))
        if len(arms) in range(1, 7):
            self.assertIs(is_laying(book, fields, len(arms), places), True)
        if max(arms, default=0) < 6:
            self.assertIsNone(first_hole(book, fields, places))
        return places

    def test_drawn_books(self):
        draw = Random(1)
        books = all_books(4) + drawn_books(60, 8) + drawn_books(20, 15, 2) + drawn_books(10, 30, 4)
        for book in books + [grid_book(4, 4), flat_book(8), row_book(8), drawn_book(3, 40, 1)]:
            for most in (1, 6):
                fields = tuple(draw.randint(0, most) if draw.randrange(3) else 0 for _ in book.parents)
                places = self.held_by_hand(book, fields)
                for many in range(len(fields)):
                    begin = Book(book.parents[:many])
                    self.assertEqual(laid(begin, fields[:many]), places[:many])

    def test_known(self):
        self.assertEqual(laid(FORK, (1, 2, 0, 3)), (((0, 0),), ((1, 0), (1, 1)), (), ((2, 0), (2, 1), (2, 2))))
        self.assertEqual(laid(Book(()), ()), ())
        self.assertEqual(laid(FORK, (0, 0, 0, 0)), ((), (), (), ()))
        self.assertEqual(laid(row_book(3), (2, 0, 1)), (((0, 0), (0, 1)), (), ((0, 2),)))
        # A forebear that brings fields is one also by way of a kind that brings none.
        self.assertEqual(laid(FORK, (1, 0, 2, 0)), (((0, 0),), (), ((0, 1), (0, 2)), ()))

    def test_of_however_many_arms(self):
        for many in (6, 7, 100, 400):
            self.assertEqual(laid(flat_book(many), (2,) * many), tuple(((arm, 0), (arm, 1)) for arm in range(many)))
        places = laid(row_book(400), (6,) * 400)
        self.assertEqual(places[399], tuple((0, 2394 + at) for at in range(6)))
        wide = loaded(flat_book(400), (5, 399))
        self.assertEqual(laid(wide, (1,) * 401)[:400], laid(flat_book(400), (1,) * 400))
        self.held_by_hand(drawn_book(4, 120, 3, 30), tuple(kind % 3 for kind in range(120)))

    def test_no_fields(self):
        for thing in no_fields(4):
            self.assertRaises(NoFields, laid, FORK, thing)


class Steps(Case):
    def test_step_by_step(self):
        draw = Random(2)
        for seed in range(60):
            program = drawn_program(draw, draw.randint(1, 40), draw.choice([10, 60, 500]))
            machine, walk = Machine(program), Walk(program)
            for _ in range(60):
                self.same(machine, walk)
                self.assertIs(machine.step(), walk.step())

    def test_go_against_run(self):
        draw = Random(3)
        for seed in range(150):
            program = drawn_program(draw, draw.randint(1, 60), draw.choice([10, 60, 500]))
            for most in (0, 1, 9, 400):
                machine, walk = Machine(program), Walk(program)
                done = machine.go(most)
                self.assertEqual(done, sum(walk.step() for _ in range(most)))
                shown, end = run(program, most)
                self.assertEqual(machine.shown(), shown)
                self.assertEqual(machine.end(), ("next", end[1]) if end[0] == "most" else end)
                self.assertEqual((shown, end), run_by_hand(program, most))
                self.same(machine, walk)
                self.assertEqual(machine.go(0), 0)
                self.assertEqual(machine.go(7), sum(walk.step() for _ in range(7)))
                self.same(machine, walk)

    def test_known(self):
        machine = Machine(STEADY)
        self.assertEqual((machine.end(), machine.shown(), machine.kinds()[1]), (("next", 0), [], ()))
        self.assertIs(machine.step(), True)
        self.assertEqual((machine.end(), machine.kinds()[1]), (("next", 1), (2,)))
        self.assertEqual(machine.go(6), 6)
        self.assertEqual(machine.memory(0), ((0, 7, 0), (0,)))
        self.assertEqual(machine.go(20000), 8)
        # The first kind lies on arm 0, the second one behind it, the third one on arm 1; the last step faulted.
        self.assertEqual(machine.memory(0), ((0, 7, ("object", 0)), (("kind", 3),)))
        self.assertEqual(machine.memory(1), ((0, 0, 0), (0,)))
        self.assertEqual(machine.end(), ("fault", 15))
        self.assertEqual(machine.shown(), [("kind", 3)])
        self.assertEqual(machine.given(3), (2, 1, (2, 1, 1)))
        self.assertIs(machine.step(), False)
        self.assertEqual(machine.go(5), 0)

    def test_objects_without_fields_or_arms_ahead(self):
        program = (("load", 0, (), 1), ("load", 1, (), 2), ("load", 2, (1,), 0), ("load", 3, (), 0), ("make", 4, 2),
                   ("make", 5, 3), ("make", 6, 0))
        machine = Machine(program)
        self.assertEqual(machine.go(99), 7)
        self.assertEqual([machine.memory(o) for o in range(3)], [((), (0, 0)), (), ((0,),)])
        self.assertEqual(machine.end(), ("end",))
        self.assertEqual((Machine(()).end(), Machine(()).step(), Machine(()).go(3)), (("end",), False, 0))


class Others(Case):
    def test_loads_between_any_rows(self):
        draw = Random(4)
        loads = 0
        for seed in range(60):
            program = drawn_program(draw, draw.randint(5, 40), 200)
            machine, walk, alone = Machine(program), Walk(program), Walk(program)
            for _ in range(50):
                while draw.randrange(3) == 0:
                    parents, fields = drawn_load(draw, len(walk.parents))
                    self.assertEqual(machine.load(parents, fields), walk.load(parents, fields))
                    loads += 1
                self.assertIs(machine.step(), walk.step())
                alone.step()
                self.same(machine, walk)
                self.assertEqual(machine.end(), alone.end())
                self.assertEqual(without_numbers(machine.shown()), without_numbers(alone.shown))
            shown, end = run(program, 50)
            self.assertEqual(without_numbers(machine.shown()), without_numbers(shown))
            self.assertEqual(machine.end(), ("next", end[1]) if end[0] == "most" else end)
        self.assertGreater(loads, 500)

    def test_bad_kind(self):
        draw = Random(5)
        machine, walk = Machine(STEADY), Walk(STEADY)
        for _ in range(8):
            parents, fields = drawn_load(draw, len(walk.parents))
            self.assertEqual(machine.load(parents, fields), walk.load(parents, fields))
        kept = told(machine)
        for thing in bad_parents(8):
            self.assertRaises(BadKind, machine.load, thing, 0)
            self.assertRaises(BadKind, machine.load, thing, None)
        for thing in NO_NUMBERS + [7, -1, True, False, "1", (1,), 10 ** 79]:
            self.assertRaises(BadKind, machine.load, (), thing)
            self.assertRaises(BadKind, machine.load, (0, 7), thing)
        self.assertEqual(told(machine), kept)
        self.assertEqual(machine.load((0, 1, 2, 3, 4, 5), 6), 8)
        for _ in range(9):
            machine.back()
        self.assertRaises(NothingDone, machine.back)

    def test_four_hundred_kinds(self):
        machine = Machine(GROWING)
        for kind in range(400):
            self.assertEqual(machine.load((kind - 1,) if kind else (), kind % 3), kind)
        self.assertRaises(BadKind, machine.load, (), 0)
        self.assertRaises(BadKind, machine.load, (399,), 6)
        self.assertEqual(machine.given(399), (0, 400, (400,)))
        self.assertIs(machine.step(), True)
        self.assertEqual(machine.end(), ("fault", 0))
        machine.back()
        machine.back()
        self.assertIs(machine.step(), True)
        self.assertEqual((machine.end(), len(machine.kinds()[1])), (("next", 1), 400))
        self.assertRaises(BadKind, machine.load, (), 0)

    def test_behind_a_fault_and_at_the_end(self):
        for program, end in (((("make", 0, 0),), ("fault", 0)), ((), ("end",))):
            machine = Machine(program)
            machine.go(5)
            self.assertEqual(machine.load((), 1), 0)
            self.assertEqual((machine.end(), machine.step()), (end, False))


class Back(Case):
    def test_behind_each_step_and_each_load(self):
        draw = Random(6)
        for seed in range(40):
            program = drawn_program(draw, draw.randint(5, 40), draw.choice([10, 60, 500]))
            machine, walk = Machine(program), Walk(program)
            kept = []
            for _ in range(60):
                here = told(machine)
                if draw.randrange(6) == 0:
                    parents, fields = drawn_load(draw, len(walk.parents))
                    machine.load(parents, fields)
                    walk.load(parents, fields)
                    kept.append(here)
                elif machine.step():
                    walk.step()
                    kept.append(here)
            self.same(machine, walk)
            while kept:
                self.assertIsNone(machine.back())
                self.assertEqual(told(machine), kept.pop())
            self.assertRaises(NothingDone, machine.back)
            self.assertEqual(told(machine), told(Machine(program)))

    def test_back_and_on(self):
        draw = Random(7)
        for seed in range(25):
            program = drawn_program(draw, 30, 60)
            machine, walk = Machine(program), Walk(program)
            done = 0
            for _ in range(120):
                way = draw.randrange(10)
                if way < 3 and done:
                    machine.back()
                    walk.back()
                    done -= 1
                elif way == 3:
                    parents, fields = drawn_load(draw, len(walk.parents))
                    walk.remember()
                    self.assertEqual(machine.load(parents, fields), walk.load(parents, fields))
                    done += 1
                elif machine.step():
                    walk.remember()
                    walk.step()
                    done += 1
            self.same(machine, walk)

    def test_nothing_done(self):
        for machine in (Machine(()), Machine(STEADY)):
            self.assertRaises(NothingDone, machine.back)
            self.assertRaises(BadKind, machine.load, (0,), 0)
            self.assertEqual(machine.go(0), 0)
            self.assertRaises(NothingDone, machine.back)
        machine = Machine((("show", 0),))
        machine.go(9)
        machine.step()
        machine.back()
        self.assertEqual((machine.end(), machine.shown()), (("next", 0), []))
        self.assertRaises(NothingDone, machine.back)


class Copies(Case):
    def test_go_on_apart(self):
        draw = Random(8)
        for seed in range(20):
            program = drawn_program(draw, 40, 100)
            machine = Machine(program)
            kept = []
            for _ in range(25):
                kept.append(told(machine))
                if not machine.step():
                    machine.load((), 1)
            here = told(machine)
            twin = machine.copy()
            self.assertIsInstance(twin, Machine)
            self.assertEqual(told(twin), here)
            machine.go(20)
            machine.load((), 3)
            self.assertEqual(told(twin), here)
            there = told(machine)
            for state in reversed(kept):
                twin.back()
                self.assertEqual(told(twin), state)
            self.assertRaises(NothingDone, twin.back)
            self.assertEqual(told(machine), there)
            self.assertEqual(twin.go(25), Machine(program).go(25))
            self.assertEqual(told(machine), there)

    def test_writes_in_one_are_not_in_the_other(self):
        machine = Machine(STEADY)
        machine.go(6)
        twin = machine.copy()
        machine.step()
        self.assertEqual((machine.memory(0), twin.memory(0)), (((0, 7, 0), (0,)), ((0, 0, 0), (0,))))
        twin.step()
        twin.back()
        self.assertEqual((machine.memory(0), twin.memory(0)), (((0, 7, 0), (0,)), ((0, 0, 0), (0,))))


class Wrong(Case):
    def test_no_program(self):
        for thing in NO_NUMBERS + [list(STEADY), (("go", 2),), (("show", 0),) * 61, [("go", 0)]]:
            if thing != ():
                self.assertRaises(NoProgram, Machine, thing)

    def test_no_number_no_kind_no_object(self):
        machine = Machine(STEADY)
        machine.go(8)
        kept = told(machine)
        for thing in NO_NUMBERS + [-1, 20001, True, False, "0", (0,)]:
            if thing != 500:
                self.assertRaises(NoNumber, machine.go, thing)
        for thing in kinds_that_are_none(4):
            self.assertRaises(NoKind, machine.given, thing)
            self.assertRaises(NoObject, machine.memory, thing)
        self.assertRaises(NoObject, machine.memory, 1)
        self.assertRaises(NoKind, Machine(()).given, 0)
        self.assertRaises(NoObject, Machine(()).memory, 0)
        self.assertEqual(told(machine), kept)

    def test_what_is_told_is_new(self):
        machine = Machine(STEADY)
        machine.go(12)
        shown = machine.shown()
        self.assertIs(type(shown), list)
        shown.append(9)
        self.assertEqual(machine.shown(), shown[:-1])
        machine.load((), 0)
        machine.kinds()
        self.assertEqual(machine.shown(), shown[:-1])
        self.assertFalse(machine == machine.copy())
        self.assertEqual(told(machine), told(machine.copy()))


class LongRuns(Case):
    def test_many_rows(self):
        machine = Machine(COUNTING[:2] + (("show", 0), ("go", 1)))
        self.assertEqual(machine.go(20000), 20000)
        self.assertEqual(machine.shown(), list(range(1, 6667)))
        self.assertEqual(machine.go(20000), 20000)
        self.assertEqual(len(machine.shown()), 13333)
        for _ in range(20000):
            machine.back()
        self.assertEqual(machine.shown(), list(range(1, 6667)))
        for _ in range(20000):
            machine.back()
        self.assertRaises(NothingDone, machine.back)
        self.assertEqual(told(machine), told(Machine(COUNTING[:2] + (("show", 0), ("go", 1)))))

    def test_four_hundred_kinds_and_as_many_objects(self):
        machine = Machine(GROWING)
        self.assertEqual(machine.go(20000), 1 + 3 * 399 + 1)
        self.assertEqual(machine.end(), ("fault", 1))
        self.assertEqual(run(GROWING, 20000), ([], ("fault", 1)))
        self.assertEqual(len(machine.kinds()[1]), 400)
        scheme = told_scheme(machine.kinds()[0])
        self.assertEqual([machine.given(kind) for kind in range(400)], list(scheme))
        while True:
            try:
                machine.back()
            except NothingDone:
                break
        self.assertEqual(told(machine), told(Machine(GROWING)))

    def test_two_thousand_objects(self):
        program = (("load", 0, (), 6), ("make", 1, 0), ("write", 1, 0, 5, 1), ("read", 2, 1, 0, 5), ("show", 2), ("go", 1))
        machine = Machine(program)
        machine.go(20000)
        self.assertEqual((machine.shown(), machine.end()), run(program, 20000))
        self.assertEqual(machine.memory(1999), ((0, 0, 0, 0, 0, ("object", 1999)),))
        self.assertRaises(NoObject, machine.memory, 2000)
        machine.back()
        self.assertEqual(machine.end(), ("next", 1))
        for _ in range(5):
            machine.back()
        self.assertRaises(NoObject, machine.memory, 1999)
        self.assertEqual(machine.end(), ("next", 1))


if __name__ == "__main__":
    unittest.main()

"""What holds over the whole program."""

import copy
import unittest

from latekinds import (
    books, clauses, desks, errors, fields, images, loader, machines, names, numbers, orders, programs, rule, runtimes,
    schemes, telling, texts, widths,
)
from latekinds.books import Book
from latekinds.errors import KindError
from tests.helpers import (
    drawn_book, drawn_books, flat_book, odd_things, row_book, rows_book, small_books, walked_all,
)
from tests.test_errors import FIELDS as ERRORS
from tests.walking import COUNTING, STEADY

FORK = Book(((), (), (0, 1), (0,)))
THREE = Book(((), (), (), (0, 1), (0, 2), (1, 2)))
RING = (1, 1, 1, 0, 0, 0)
CLAUSES = ((2, 6), (0, 5), (1, 7))
LAYING = (((0, 0),), ((1, 1), (1, 0)), (), ((0, 1), (1, 0), (0, 2)))


def naming(book):
    return names.web_names(book)[-1]


def machine():
    made = machines.Machine(STEADY)
    made.load((), 1)
    made.go(9)
    return made


def runtime(book=FORK):
    made = runtimes.Runtime()
    for parents in book.parents:
        made.load(parents)
    return made


def desk():
    made = desks.Desk()
    for line in ("new a", "load a -", "load a -", "load a 0,1", "new b"):
        made.tell(line)
    return made


SCHEME = rule.told_scheme(FORK)
FULL = (1, 2, 0, 3)

# Right calls of all that the interface lists, each with its arguments.
CALLS = [
    (books.is_a, FORK, 2, 1), (books.forebears, FORK, 2), (books.heirs, FORK, 0), (books.loaded, FORK, (2, 3)),
    (books.beginning, FORK, 2), (books.plain, FORK), (books.reordered, FORK, (1, 0, 3, 2)), (books.beside, FORK, THREE),
    (widths.width, FORK), (widths.widest, FORK), (widths.dealing, FORK), (widths.widths, FORK),
    (widths.is_dealing, FORK, ((0, 3), (1, 2))), (widths.is_side_by_side, FORK, (0, 1)), (widths.all_widest, FORK),
    (schemes.says, SCHEME, 2, 0), (schemes.is_scheme, FORK, SCHEME), (schemes.first_wrong, FORK, SCHEME),
    (schemes.slots_of, SCHEME), (schemes.scheme_of, FORK, ((0, 3), (1, 2))), (schemes.many_slots, SCHEME),
    (rule.placed, FORK), (rule.groups, FORK), (rule.told_scheme, FORK), (loader.led, loader.first_fit, FORK),
    (loader.told_rule, FORK, (0, 1, 2)), (loader.first_fit, FORK, (0, 1, 2)), (loader.most_loads, 5),
    (loader.most_loads_by_twos, 5), (loader.beaten, loader.first_fit, 3), (loader.beaten_by_twos, loader.first_fit, 3),
    (loader.is_beaten, loader.first_fit, 2, FORK), (loader.is_beaten_by_twos, loader.first_fit, 2, FORK),
    (orders.tree_placed, row_book(4)), (orders.best_order, FORK), (orders.worst_order, FORK), (names.web_names, FORK),
    (names.tree_names, row_book(4)), (names.web_says, "11", "0"), (names.tree_says, "10", "1"),
    (names.broken, naming, names.web_says, 4), (names.is_broken, naming, names.web_says, 4, row_book(4)),
    (numbers.two_orders, FORK), (numbers.forces, THREE), (numbers.is_two_orders, FORK, ((0, 3, 1, 2), (1, 0, 2, 3))),
    (numbers.is_forces, THREE, [(0, 1), (1, 0)]), (telling.lot_of, SCHEME, 2), (telling.common, SCHEME, 2, 3),
    (telling.meet, SCHEME, 2, 3), (clauses.label_of, FORK, CLAUSES, 3), (clauses.never_met, FORK, CLAUSES[::-1]),
    (clauses.alike, FORK, CLAUSES, CLAUSES), (clauses.parting, FORK, CLAUSES, CLAUSES[::-1]),
    (fields.is_laying, FORK, FULL, 2, LAYING), (fields.is_hues, FORK, FULL, 2, (0, 1, 0, 0)),
    (fields.is_odd_ring, THREE, RING, [0, 1, 2]), (fields.first_hole, FORK, FULL, LAYING), (fields.quarrels, THREE, RING),
    (fields.hues, THREE, RING, 3), (fields.laying, THREE, RING, 3), (fields.odd_ring, THREE, RING),
    (fields.count_layings, FORK, FULL), (texts.book_text, FORK), (texts.scheme_text, SCHEME),
    (texts.read_book, "-\n-\n0 1\n0\n"), (texts.read_scheme, "0 1: -\n"), (programs.is_program, STEADY),
    (programs.check_rows, STEADY + (None,)), (programs.run, STEADY, 50), (machines.laid, FORK, FULL),
    (images.image, machine()), (images.restored, STEADY, images.image(machine())),
    (images.recovered, STEADY, images.image(machine()), ""),
    (lambda made: [made.book(), made.groups(), made.many(), made.ask(2, 1), made.given(2)], runtime()),
    (lambda made: [made.shown(), made.end(), made.kinds(), made.given(1), made.memory(0)], machine()),
    (lambda made: [made.tell("names"), made.tell("show a"), made.tell("groups a"), made.undoable()], desk()),
]

# For each error calls that raise it, with what its field is then.
RAISING = {
    "BadBook": [(-1, Book, [()]), (1, Book, ((), (1,))), (0, texts.read_book, "0\n")],
    "NoKind": [
        (None, books.is_a, FORK, 9, 0), (None, telling.lot_of, SCHEME, 4), (None, clauses.label_of, FORK, (), 4),
        (None, runtime().ask, 0, 4), (None, runtime().given, True), (None, machine().given, 9), (None, desk().tell, "ask a 0 9"),
    ],
    "BadKind": [
        (None, books.loaded, FORK, (4,)), (None, runtime().load, (4,)), (None, machine().load, (), 7),
        (None, machine().load, (9,), 0), (None, desk().tell, "load b 0"),
    ],
    "NoNumber": [
        (None, books.beginning, FORK, 9), (None, loader.most_loads, 0), (None, fields.hues, FORK, FULL, 0),
        (None, programs.run, STEADY, -1), (None, machine().go, 20001),
    ],
    "NoOrder": [(None, books.reordered, FORK, (0,))],
    "TooMany": [
        (500, widths.all_widest, rows_book(23, 23, 23)), (7, orders.best_order, flat_book(8)),
        (40, numbers.forces, flat_book(41)), (400, runtime(flat_book(400)).load, ()),
    ],
    "NoScheme": [(None, schemes.says, None, 0, 0), (None, texts.scheme_text, [])],
    "NoDealing": [(None, schemes.scheme_of, FORK, ())],
    "NotTree": [(2, orders.tree_placed, FORK), (1, names.tree_names, FORK)],
    "NoName": [(None, names.web_says, "2", "")],
    "NoClauses": [(None, clauses.never_met, FORK, []), (None, clauses.parting, FORK, (), ((4, 0),))],
    "NoFields": [(None, fields.quarrels, FORK, ()), (None, machines.laid, FORK, (7, 0, 0, 0))],
    "NoLaying": [(None, fields.first_hole, FORK, FULL, ())],
    "NothingDone": [
        (None, runtimes.Runtime().back), (None, machines.Machine(STEADY).back), (None, desks.Desk().tell, "undo"),
    ],
    "BadText": [
        (0, texts.read_book, None), (2, texts.read_scheme, "0 1: -\n0"), (1, images.restored, STEADY, ""),
    ],
    "NoLine": [(None, desk().tell, "names "), (None, desk().tell, None)],
    "NoBook": [("c", desk().tell, "show c")],
    "NoProgram": [
        (None, programs.run, None, 0), (None, machines.Machine, []), (None, images.restored, 0, None),
        (None, images.recovered, 0, None, None),
    ],
    "NoObject": [(None, machine().memory, 7)],
    "NothingWhole": [(None, images.recovered, STEADY, "", None)],
}

# All calls in which an argument may be anything, as functions of this one.
JUDGING = [
    Book, lambda thing: books.is_a(FORK, thing, 0), lambda thing: books.is_a(FORK, 0, thing),
    lambda thing: books.loaded(FORK, thing), lambda thing: books.beginning(FORK, thing),
    lambda thing: books.reordered(FORK, thing), lambda thing: books.forebears(FORK, thing),
    lambda thing: books.heirs(FORK, thing), lambda thing: widths.is_dealing(FORK, thing),
    lambda thing: widths.is_side_by_side(FORK, thing), lambda thing: schemes.says(thing, 0, 0),
    lambda thing: schemes.is_scheme(FORK, thing), lambda thing: schemes.first_wrong(FORK, thing), schemes.slots_of,
    schemes.many_slots, lambda thing: schemes.scheme_of(FORK, thing), loader.most_loads, loader.most_loads_by_twos,
    lambda thing: loader.beaten(loader.first_fit, thing), lambda thing: loader.is_beaten(loader.first_fit, 2, thing),
    lambda thing: loader.is_beaten_by_twos(loader.first_fit, 2, thing), lambda thing: names.web_says(thing, ""),
    lambda thing: names.tree_says("", thing), lambda thing: names.is_broken(naming, names.web_says, 2, thing),
    lambda thing: names.broken(naming, names.web_says, thing), lambda thing: numbers.is_two_orders(FORK, thing),
    lambda thing: numbers.is_forces(FORK, thing), lambda thing: telling.lot_of(thing, 0),
    lambda thing: telling.meet(SCHEME, 0, thing), lambda thing: clauses.label_of(FORK, thing, 0),
    lambda thing: clauses.label_of(FORK, CLAUSES, thing), lambda thing: clauses.never_met(FORK, thing),
    lambda thing: clauses.alike(FORK, CLAUSES, thing), lambda thing: clauses.parting(FORK, thing, CLAUSES),
    lambda thing: fields.quarrels(FORK, thing), lambda thing: fields.is_laying(FORK, FULL, 2, thing),
    lambda thing: fields.is_laying(FORK, FULL, thing, LAYING), lambda thing: fields.first_hole(FORK, FULL, thing),
    lambda thing: fields.hues(FORK, FULL, thing), lambda thing: fields.is_hues(FORK, FULL, 2, thing),
    lambda thing: fields.is_odd_ring(THREE, RING, thing), lambda thing: fields.count_layings(FORK, thing),
    lambda thing: runtime().load(thing), lambda thing: runtime().ask(thing, 0), lambda thing: runtime().given(thing),
    texts.read_book, texts.scheme_text, texts.read_scheme, lambda thing: desk().tell(thing), programs.is_program,
    programs.check_rows, lambda thing: programs.run(thing, 5), lambda thing: programs.run(STEADY, thing),
    lambda thing: machines.laid(FORK, thing), machines.Machine, lambda thing: machine().go(thing),
    lambda thing: machine().load(thing, 0), lambda thing: machine().load((), thing),
    lambda thing: machine().given(thing), lambda thing: machine().memory(thing),
    lambda thing: images.restored(thing, ""), lambda thing: images.restored(STEADY, thing),
    lambda thing: images.recovered(thing, "", ""), lambda thing: images.recovered(STEADY, thing, thing),
]


def frozen(thing):
    """A thing that tells what an answer holds, and of which kind it is all through."""
    if isinstance(thing, Book):
        return "book", thing.parents
    if isinstance(thing, machines.Machine):
        return "machine", images.image(thing)
    if isinstance(thing, (list, tuple)):
        return type(thing).__name__, [frozen(part) for part in thing]
    return type(thing).__name__, thing


def lists_in(thing):
    if isinstance(thing, (list, tuple)):
        return ([thing] if isinstance(thing, list) else []) + [found for part in thing for found in lists_in(part)]
    return []


class WhoIsWhat(unittest.TestCase):
    def test_told_alike(self):
        for book in small_books()[::7] + drawn_books(6, 8, 4) + [FORK, THREE]:
            ups = walked_all(book)
            kinds = range(len(ups))
            scheme, bits = rule.told_scheme(book), names.web_names(book)
            one, by_lines, outside = runtime(book), desks.Desk(), machines.Machine(())
            by_lines.tell("new a")
            for row in book.parents:
                by_lines.tell(f"load a {','.join(map(str, row)) or '-'}")
                outside.load(row, 1)
            loads = tuple(("load", x, row, 0) for x, row in enumerate(book.parents))
            given = tuple(outside.given(x) for x in kinds)
            for x in kinds:
                for p in kinds:
                    wanted = p in ups[x]
                    self.assertIs(books.is_a(book, x, p), wanted)
                    self.assertIs(schemes.says(scheme, x, p), wanted)
                    self.assertIs(schemes.says(given, x, p), wanted)
                    self.assertIs(names.web_says(bits[x], bits[p]), wanted)
                    self.assertIs(one.ask(x, p), wanted)
                    self.assertEqual(by_lines.tell(f"ask a {x} {p}"), "yes" if wanted else "no")
                    rows = loads + (("make", 9, x), ("is", 9, p, len(loads) + 3), ("show", 9))
                    inside = machines.Machine(rows)
                    inside.go(99)
                    self.assertEqual(inside.shown(), [] if wanted else [("object", 0)])
                    self.assertEqual(programs.run(rows, 99), (inside.shown(), ("end",)))

    def test_what_was_given_is_told_alike(self):
        for book in drawn_books(10, 12, 4) + [drawn_book(5, 100, 3)]:
            scheme = rule.told_scheme(book)
            one, outside = runtime(book), machines.Machine(COUNTING)
            for kind, row in enumerate(book.parents):
                outside.load(row, kind % 3)
                outside.step()
            for x in range(len(scheme)):
                self.assertEqual(one.given(x), scheme[x])
                self.assertEqual(outside.given(x), scheme[x])
            self.assertTrue(outside.kinds()[0] == book)
            self.assertEqual(one.groups(), rule.groups(book))


class Errors(unittest.TestCase):
    def test_each_of_its_own_class_alone(self):
        self.assertEqual(sorted(RAISING), sorted(ERRORS))
        for name, cases in RAISING.items():
            for field, action, *arguments in cases:
                with self.assertRaises(KindError) as caught:
                    action(*arguments)
                error = caught.exception
                self.assertIs(type(error), getattr(errors, name), (action, arguments))
                self.assertIsInstance(error, ValueError)
                self.assertEqual(vars(error), {key: field for key in ERRORS[name]})
                for other in ERRORS:
                    self.assertIs(isinstance(error, getattr(errors, other)), other == name)

    def test_no_other_error_whatever_is_judged(self):
        things = odd_things() + [FORK, runtime(), machine(), desk(), errors.NoKind(), KindError, desks.Desk, programs]
        for action in JUDGING:
            for thing in things:
                try:
                    action(thing)
                except KindError:
                    pass

    def test_judged_things_stay(self):
        for action in JUDGING:
            for thing in ([], [[0, 1], (0, [1])], [()], {0: [1]}, {"a": {}}, ((0, [1]),), [("go", 0)], [(0, 1), (1, 0)]):
                kept = copy.deepcopy(thing)
                try:
                    action(thing)
                except KindError:
                    pass
                self.assertEqual(thing, kept)


class Answers(unittest.TestCase):
    def test_equal_calls_give_equal_answers_and_change_nothing(self):
        for action, *arguments in CALLS:
            kept = frozen(arguments)
            first = action(*arguments)
            told = frozen(first)
            for found in lists_in(first):
                found.append("more")
                found.reverse()
            self.assertEqual(frozen(action(*arguments)), told, action)
            self.assertEqual(frozen(arguments), kept, action)

    def test_objects_are_equal_to_nothing_of_another_kind(self):
        things = [FORK, runtime(), machine(), desk(), errors.NoKind(), (), 0, None, FORK.parents]
        for at, one in enumerate(things):
            for other in things[:at]:
                self.assertFalse(one == other)
                self.assertFalse(other == one)


if __name__ == "__main__":
    unittest.main()

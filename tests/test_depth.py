import inspect
import sys
import unittest

from latekinds.books import Book, beginning, beside, forebears, heirs, is_a, loaded, plain, reordered
from latekinds.clauses import alike, label_of, never_met, parting
from latekinds.desks import Desk
from latekinds.errors import BadText, KindError, NoClauses, NoFields, NoLaying, NoName, NoProgram, NoScheme, NotTree
from latekinds.fields import (
    count_layings, first_hole, hues, is_hues, is_laying, is_odd_ring, laying, odd_ring, quarrels,
)
from latekinds.images import image, recovered, restored
from latekinds.loader import beaten, first_fit, is_beaten, is_beaten_by_twos, led, most_loads_by_twos, told_rule
from latekinds.machines import Machine, laid
from latekinds.names import broken, is_broken, tree_names, tree_says, web_names, web_says
from latekinds.numbers import forces, is_forces, is_two_orders, two_orders
from latekinds.orders import best_order, tree_placed, worst_order
from latekinds.programs import check_rows, is_program, run
from latekinds.rule import groups, placed, told_scheme
from latekinds.runtimes import Runtime
from latekinds.schemes import first_wrong, is_scheme, many_slots, says, scheme_of
from latekinds.telling import common, lot_of, meet
from latekinds.texts import book_text, read_book, read_scheme, scheme_text
from latekinds.widths import all_widest, dealing, is_dealing, is_side_by_side, widest, width, widths
from tests.helpers import deep, drawn_book, flat_book, grid_book, row_book
from tests.walking import GROWING

# Far fewer calls than there are kinds in the books, so that no call can go down along a row.
CALLS = 40


def call_all(book):
    """Calls all that is built of a book of 400 kinds."""
    last = len(book.parents) - 1
    is_a(book, last, 0), forebears(book, last), heirs(book, 0), loaded(book, (last,)), beginning(book, last)
    plain(book), reordered(book, tuple(range(last + 1))), beside(book, book), Book(book.parents)
    width(book), widest(book), widths(book), is_dealing(book, dealing(book)), is_side_by_side(book, widest(book))
    scheme = scheme_of(book, dealing(book))
    says(scheme, last, 0), is_scheme(book, scheme), first_wrong(book, scheme), many_slots(scheme)
    placed(book), groups(book), told_scheme(book), led(first_fit, book), led(told_rule, book)
    is_beaten(first_fit, 6, book), is_beaten_by_twos(first_fit, 6, book)
    lot_of(scheme, last), common(scheme, last, 0), meet(scheme, last, 0), web_says(web_names(book)[-1], "")
    is_two_orders(book, (tuple(range(last + 1)),) * 2), is_forces(book, [(0, last), (last, 0)])
    for action in (tree_placed, tree_names):
        try:
            action(book)
        except NotTree:
            pass


def call_clauses_and_fields(book):
    """Calls all of clauses, fields and texts for a book of 400 kinds."""
    many = len(book.parents)
    clauses = tuple((many - 1 - at, at) for at in range(40))
    label_of(book, clauses, 0), never_met(book, clauses), alike(book, clauses, clauses[::-1]), parting(book, (), clauses)
    fields = tuple(at & 1 for at in range(many))
    quarrels(book, fields), odd_ring(book, fields), count_layings(book, fields), laid(book, fields)
    is_odd_ring(book, fields, [0] * 9999), is_hues(book, fields, 6, fields)
    is_laying(book, fields, 6, tuple(((0, 0),) * one for one in fields))
    first_hole(book, fields, tuple(((5, 0),) * one for one in fields))
    for action in (hues, laying):
        try:
            action(book, fields, 6)
        except KindError:
            pass
    read_book(book_text(book)), read_scheme(scheme_text(told_scheme(book)))


def call_live(book):
    """Has a runtime, a desk and a machine load all kinds of a book, and take them back."""
    runtime, desk, machine = Runtime(), Desk(), Machine(())
    desk.tell("new a")
    for row in book.parents:
        runtime.load(row)
        machine.load(row, 1)
        desk.tell(f"load a {','.join(map(str, row)) or '-'}")
    runtime.ask(399, 0), runtime.given(399), runtime.groups(), runtime.book(), runtime.copy()
    runtime.trying(lambda one: one.trying(lambda other: other.back()))
    for word in ("show", "width", "slots", "groups"):
        desk.tell(f"{word} a")
    restored((), image(machine)), recovered((), "", image(machine)), machine.copy(), machine.given(399), machine.kinds()
    for _ in range(400):
        runtime.back(), machine.back(), desk.tell("undo")


class Depth(unittest.TestCase):
    def few_calls(self, action):
        before = sys.getrecursionlimit()
        sys.setrecursionlimit(len(inspect.stack(0)) + CALLS)
        try:
            action()
        finally:
            sys.setrecursionlimit(before)

    def test_great_books_in_few_calls(self):
        for book in (row_book(400), flat_book(400), grid_book(20, 20), drawn_book(8, 400, 3, 30)):
            self.few_calls(lambda: call_all(book))
        for book in (row_book(400), flat_book(400), grid_book(20, 20)):
            self.few_calls(lambda: all_widest(book))

    def test_contests_and_orders_in_few_calls(self):
        for wide in range(1, 7):
            self.few_calls(lambda: (beaten(first_fit, wide), beaten(told_rule, wide)))
        self.few_calls(lambda: (best_order(row_book(7)), worst_order(flat_book(7)), most_loads_by_twos(100)))

    def test_names_and_numbers_in_few_calls(self):
        self.few_calls(lambda: broken(lambda book: "0" * len(book.parents), tree_says, 9))
        self.few_calls(lambda: is_broken(lambda book: "", tree_says, 9, row_book(9)))
        for book in (flat_book(40), row_book(40), grid_book(5, 8), drawn_book(7, 40)):
            self.few_calls(lambda: (two_orders(book), forces(book)))

    def test_clauses_fields_and_texts_in_few_calls(self):
        for book in (row_book(400), flat_book(400), grid_book(20, 20), drawn_book(8, 400, 3, 30)):
            self.few_calls(lambda: call_clauses_and_fields(book))
        for book in (row_book(40), grid_book(5, 8), drawn_book(7, 40)):
            for arms in range(1, 7):
                self.few_calls(lambda: (hues(book, (1,) * 40, arms), laying(book, (1,) * 40, arms)))

    def test_what_is_live_in_few_calls(self):
        for book in (row_book(400), flat_book(400), grid_book(20, 20)):
            self.few_calls(lambda: call_live(book))

    def test_long_runs_in_few_calls(self):
        machine = Machine(GROWING)
        self.few_calls(lambda: (run(GROWING, 20000), machine.go(20000), image(machine)))
        self.few_calls(lambda: [machine.back() for _ in range(1000)])

    def test_deep_things_in_few_calls(self):
        book = row_book(3)
        for wrap in (lambda x: (x,), lambda x: [x], lambda x: (0, x), lambda x: (0, 1, x), lambda x: ((0, 1, (x,)),)):
            thing = deep(40, wrap, 0)
            self.few_calls(lambda: (is_dealing(book, thing), is_side_by_side(book, thing), is_scheme(book, thing)))
            self.few_calls(lambda: (is_two_orders(book, thing), is_two_orders(book, (thing, thing))))
            self.few_calls(lambda: (is_forces(book, thing), is_forces(book, [thing, thing])))
            self.few_calls(lambda: self.assertRaises(NoScheme, says, thing, 0, 0))
            self.few_calls(lambda: self.assertRaises(NoName, tree_says, thing, ""))
            self.few_calls(lambda: self.assertRaises(NoClauses, never_met, book, thing))
            self.few_calls(lambda: self.assertRaises(NoFields, quarrels, book, thing))
            self.few_calls(lambda: self.assertRaises(NoLaying, first_hole, book, (0, 0, 0), thing))
            self.few_calls(lambda: self.assertRaises(BadText, read_book, thing))
            self.few_calls(lambda: self.assertRaises(NoProgram, Machine, thing))
            self.few_calls(lambda: (is_program(thing), check_rows((thing, thing)), is_hues(book, (0, 0, 0), 1, thing)))
            self.few_calls(lambda: (is_laying(book, (0, 0, 0), 1, thing), is_odd_ring(book, (0, 0, 0), thing)))


if __name__ == "__main__":
    unittest.main()

import inspect
import sys
import unittest

from latekinds.books import Book, beginning, beside, forebears, heirs, is_a, loaded, plain, reordered
from latekinds.errors import NoName, NoScheme, NotTree
from latekinds.loader import beaten, first_fit, is_beaten, is_beaten_by_twos, led, most_loads_by_twos, told_rule
from latekinds.names import broken, is_broken, tree_names, tree_says, web_names, web_says
from latekinds.numbers import forces, is_forces, is_two_orders, two_orders
from latekinds.orders import best_order, tree_placed, worst_order
from latekinds.rule import groups, placed, told_scheme
from latekinds.schemes import first_wrong, is_scheme, many_slots, says, scheme_of
from latekinds.telling import common, lot_of, meet
from latekinds.widths import all_widest, dealing, is_dealing, is_side_by_side, widest, width, widths
from tests.helpers import deep, drawn_book, flat_book, grid_book, row_book

# Far fewer calls than there are kinds in the books, so that no call can go down along a row.
CALLS = 40


def call_all(book):
    """Calls all that is built of a book of 400 kinds."""
    last = len(book.parents) - 1
    is_a(book, last, 0), forebears(book, last), heirs(book, 0), loaded(book, (last,)), beginning(book, last)
    plain(book), reordered(book, tuple(range(last + 1))), beside(book, book), Book(book.parents)
    width(book), widest(book), widths(book), is_dealing(book, dealing(book)), is_side_by_side(book, widest(book))
    scheme = scheme_of(book, dealing(book))
    says(scheme, last, 0), is_scheme(book, scheme), first_wrong(book, scheme), many_slots(scheme)
    placed(book), groups(book), told_scheme(book), led(first_fit, book), led(told_rule, book)
    is_beaten(first_fit, 6, book), is_beaten_by_twos(first_fit, 6, book)
    lot_of(scheme, last), common(scheme, last, 0), meet(scheme, last, 0), web_says(web_names(book)[-1], "")
    is_two_orders(book, (tuple(range(last + 1)),) * 2), is_forces(book, [(0, last), (last, 0)])
    for action in (tree_placed, tree_names):
        try:
            action(book)
        except NotTree:
            pass


class Depth(unittest.TestCase):
    def few_calls(self, action):
        before = sys.getrecursionlimit()
        sys.setrecursionlimit(len(inspect.stack(0)) + CALLS)
        try:
            action()
        finally:
            sys.setrecursionlimit(before)

    def test_great_books_in_few_calls(self):
        for book in (row_book(400), flat_book(400), grid_book(20, 20), drawn_book(8, 400, 3, 30)):
            self.few_calls(lambda: call_all(book))
        for book in (row_book(400), flat_book(400), grid_book(20, 20)):
            self.few_calls(lambda: all_widest(book))

    def test_contests_and_orders_in_few_calls(self):
        for wide in range(1, 7):
            self.few_calls(lambda: (beaten(first_fit, wide), beaten(told_rule, wide)))
        self.few_calls(lambda: (best_order(row_book(7)), worst_order(flat_book(7)), most_loads_by_twos(100)))

    def test_names_and_numbers_in_few_calls(self):
        self.few_calls(lambda: broken(lambda book: "0" * len(book.parents), tree_says, 9))
        self.few_calls(lambda: is_broken(lambda book: "", tree_says, 9, row_book(9)))
        for book in (flat_book(40), row_book(40), grid_book(5, 8), drawn_book(7, 40)):
            self.few_calls(lambda: (two_orders(book), forces(book)))

    def test_deep_things_in_few_calls(self):
        book = row_book(3)
        for wrap in (lambda x: (x,), lambda x: [x], lambda x: (0, x), lambda x: (0, 1, x), lambda x: ((0, 1, (x,)),)):
            thing = deep(40, wrap, 0)
            self.few_calls(lambda: (is_dealing(book, thing), is_side_by_side(book, thing), is_scheme(book, thing)))
            self.few_calls(lambda: (is_two_orders(book, thing), is_two_orders(book, (thing, thing))))
            self.few_calls(lambda: (is_forces(book, thing), is_forces(book, [thing, thing])))
            self.few_calls(lambda: self.assertRaises(NoScheme, says, thing, 0, 0))
            self.few_calls(lambda: self.assertRaises(NoName, tree_says, thing, ""))


if __name__ == "__main__":
    unittest.main()

import copy
import unittest

from latekinds.books import Book
from latekinds.errors import NoKind, NoScheme
from latekinds.rule import told_scheme
from latekinds.schemes import scheme_of
from latekinds.telling import common, lot_of, meet
from tests.helpers import (
    drawn_book, drawn_books, drawn_dealing, drawn_scheme, flat_book, grid_book, kinds_that_are_none, no_schemes,
    row_book, slow_says, small_books, walked_all,
)

FORK = Book(((), (), (0, 1), (0,)))


def right_schemes():
    """Books, each with schemes that are right for it."""
    for seed, book in enumerate(small_books()[::4] + drawn_books(10, 9) + [grid_book(3, 4), flat_book(5), row_book(5)]):
        yield book, told_scheme(book)
        yield book, scheme_of(book, drawn_dealing(book, seed))


class Telling(unittest.TestCase):
    def held_against_the_words(self, scheme):
        kinds = range(len(scheme))
        for x in kinds:
            lot = tuple(p for p in kinds if slow_says(scheme, x, p))
            self.assertEqual(lot_of(scheme, x), lot)
            self.assertIs(type(lot_of(scheme, x)), tuple)
            for y in kinds:
                both = tuple(p for p in lot if slow_says(scheme, y, p))
                self.assertEqual(common(scheme, x, y), both)
                one, other = scheme[x][2], scheme[y][2]
                least = tuple(min(one[at], other[at]) for at in range(min(len(one), len(other))))
                self.assertEqual(meet(scheme, x, y), least)
                self.assertEqual([type(common(scheme, x, y)), type(meet(scheme, x, y))], [tuple, tuple])

    def test_any_schemes(self):
        for seed in range(80):
            self.held_against_the_words(drawn_scheme(seed, seed % 11))

    def test_right_schemes(self):
        for book, scheme in right_schemes():
            self.held_against_the_words(scheme)
            for x, up in enumerate(walked_all(book)):
                self.assertEqual(lot_of(scheme, x), tuple(sorted(up)))

    def test_meet_tells_what_both_are(self):
        for book, scheme in right_schemes():
            ups = walked_all(book)
            for x, up in enumerate(ups):
                for y, other in enumerate(ups):
                    row = meet(scheme, x, y)
                    told = [p for p, (slot, number, _) in enumerate(scheme) if slot < len(row) and number <= row[slot]]
                    self.assertEqual(told, sorted(up & other))
                    self.assertEqual(common(scheme, x, y), tuple(told))

    def test_known(self):
        scheme = told_scheme(FORK)
        self.assertEqual(lot_of(scheme, 2), (0, 1, 2))
        self.assertEqual(meet(scheme, 0, 2), (1,))
        self.assertEqual(meet(scheme, 2, 2), (1, 1, 1))
        wrong = ((0, 5, (4,)), (10 ** 71, 0, ()), (1, -2, (9, -2, 7)))
        self.assertEqual(lot_of(wrong, 0), ())
        self.assertEqual(lot_of(wrong, 1), ())
        self.assertEqual(lot_of(wrong, 2), (0, 2))
        self.assertEqual(common(wrong, 2, 2), (0, 2))
        self.assertEqual(meet(wrong, 2, 0), (4,))
        self.assertEqual(meet(wrong, 2, 1), ())

    def test_great_books(self):
        book = drawn_book(2, 150, 3)
        scheme = told_scheme(book)
        ups = walked_all(book)
        for x in range(0, 150, 13):
            self.assertEqual(lot_of(scheme, x), tuple(sorted(ups[x])))
            self.assertEqual(common(scheme, x, 149), tuple(sorted(ups[x] & ups[149])))


class Wrong(unittest.TestCase):
    def test_no_scheme_ahead_of_no_kind(self):
        for thing in no_schemes():
            for x, y in ((0, 0), (None, 0), (9, -1)):
                for action in (lambda: lot_of(thing, x), lambda: common(thing, x, y), lambda: meet(thing, x, y)):
                    with self.assertRaises(NoScheme):
                        action()

    def test_no_kind(self):
        scheme = told_scheme(FORK)
        for thing in kinds_that_are_none(4):
            for action in (
                lambda: lot_of(scheme, thing), lambda: common(scheme, thing, 0), lambda: common(scheme, 0, thing),
                lambda: meet(scheme, thing, 0), lambda: meet(scheme, 0, thing), lambda: meet(scheme, thing, thing),
            ):
                with self.assertRaises(NoKind):
                    action()
        for action in (lambda: lot_of((), 0), lambda: common((), 0, 0), lambda: meet((), 0, 0)):
            with self.assertRaises(NoKind):
                action()


class NothingChanges(unittest.TestCase):
    def test_arguments_stay(self):
        scheme = told_scheme(grid_book(3, 3))
        kept = copy.deepcopy(scheme)
        lot_of(scheme, 3), common(scheme, 3, 5), meet(scheme, 3, 5)
        self.assertEqual(scheme, kept)
        listed = [[0, 1, [1]]]
        self.assertRaises(NoScheme, meet, listed, 0, 0)
        self.assertEqual(listed, [[0, 1, [1]]])


if __name__ == "__main__":
    unittest.main()

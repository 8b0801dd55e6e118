import unittest
from itertools import combinations, product
from random import Random

from latekinds.books import Book, beside, loaded
from latekinds.clauses import alike, label_of, never_met, parting
from latekinds.errors import NoClauses, NoKind
from tests.helpers import (
    all_books, drawn_book, drawn_books, flat_book, grid_book, kinds_that_are_none, odd_numbers, odd_things, odd_tuples,
    row_book, small_books, walked_all,
)

FORK = Book(((), (), (0, 1), (0,)))


def slow_label(clauses, up):
    """The label that a kind is told that is all these kinds, going through the clauses one by one."""
    for kind, label in clauses:
        if kind in up:
            return label
    return None


def lots_to_come(book, most):
    """All lots of up to so many parents of a kind to come, fewer first, each with all that such a kind is."""
    ups = walked_all(book)
    for size in range(most + 1):
        for lot in combinations(range(len(ups)), size):
            yield lot, set().union(*[ups[kind] for kind in lot])


def slow_parting(book, one, other):
    for lot, up in lots_to_come(book, len(book.parents)):
        if slow_label(one, up) != slow_label(other, up):
            return lot
    return None


def slow_never_met(book, clauses):
    met = set()
    for _, up in lots_to_come(book, len(book.parents)):
        met.update([at for at, (kind, _) in enumerate(clauses) if kind in up][:1])
    return tuple(at for at in range(len(clauses)) if at not in met)


def drawn_clauses(draw, kinds, many, labels=3):
    return tuple((draw.randrange(kinds), draw.randrange(labels)) for _ in range(many)) if kinds else ()


def altered(draw, clauses, kinds):
    """The clauses with a pair left out, doubled, exchanged, or with another label or kind."""
    rows = list(clauses)
    at = draw.randrange(len(rows))
    way = draw.randrange(6)
    if way == 0:
        del rows[at]
    elif way == 1:
        rows.insert(draw.randrange(len(rows) + 1), rows[at])
    elif way == 2:
        other = draw.randrange(len(rows))
        rows[at], rows[other] = rows[other], rows[at]
    elif way == 3:
        rows[at] = (rows[at][0], rows[at][1] + 1)
    elif way == 4:
        rows[at] = (draw.randrange(kinds), rows[at][1])
    else:
        draw.shuffle(rows)
    return tuple(rows[:40])


def no_clauses(kinds):
    """Things that are no clauses of a book of so many kinds."""
    right = (0, 1)
    things = [thing for thing in odd_things() + odd_tuples() + odd_numbers() if thing != ()]
    for item in (
        (True, 1), (False, 1), (0, True), (0, False), (-1, 1), (kinds, 1), (kinds + 5, 1), (10 ** 79, 1), (0, None),
        (0, "1"), (0, (1,)), (0, [1]), ("0", 1), (None, 1), ((0,), 1), (0,), (0, 1, 2), (), [0, 1], [], "01", {0: 1, 1: 2},
        b"01", range(2), 0, None, Book(()),
    ):
        things += [(item,), (right, item), (item, right), (right,) * 38 + (item, right)]
    return things + [(right,) * 41, (right,) * 10000, [right], [], {0: 1}, {right: right}, iter((right,)), "", "0 1"]


class Labels(unittest.TestCase):
    def test_every_kind(self):
        draw = Random(1)
        for book in small_books()[1::3] + drawn_books(20, 9) + [grid_book(4, 5), flat_book(6), row_book(6)]:
            ups = walked_all(book)
            for many in (0, 1, 2, 3, 5, 40):
                clauses = drawn_clauses(draw, len(ups), many)
                for x, up in enumerate(ups):
                    self.assertEqual(label_of(book, clauses, x), slow_label(clauses, up))

    def test_kinds_that_come(self):
        draw = Random(2)
        for book in drawn_books(20, 6):
            clauses = drawn_clauses(draw, 6, 4)
            for lot, up in lots_to_come(book, 6):
                came = loaded(book, lot)
                self.assertEqual(label_of(came, clauses, 6), slow_label(clauses, up))
                if lot:
                    later = loaded(came, (lot[0], 6))
                    self.assertEqual(label_of(later, clauses, 7), slow_label(clauses, up))

    def test_known(self):
        clauses = ((2, 5), (1, -7), (0, 10 ** 79))
        self.assertEqual([label_of(FORK, clauses, x) for x in range(4)], [10 ** 79, -7, 5, 10 ** 79])
        self.assertIsNone(label_of(FORK, ((2, 5), (3, 4)), 0))
        self.assertIsNone(label_of(FORK, (), 0))
        self.assertEqual(label_of(FORK, ((3, 1), (0, 2), (3, 3)), 3), 1)
        self.assertEqual(label_of(FORK, ((0, 0),), 2), 0)
        self.assertEqual(label_of(FORK, ((0, 1),) * 40, 2), 1)


class WhateverComes(unittest.TestCase):
    def held_against_all(self, book, one, other):
        lot = slow_parting(book, one, other)
        self.assertEqual(parting(book, one, other), lot)
        self.assertEqual(parting(book, other, one), lot)
        self.assertIs(alike(book, one, other), lot is None)
        if lot is not None:
            self.assertIn(len(lot), (1, 2))
            came = loaded(book, lot)
            last = len(book.parents)
            self.assertNotEqual(label_of(came, one, last), label_of(came, other, last))
        self.assertEqual(never_met(book, one), slow_never_met(book, one))

    def test_all_lists_of_two_on_small_books(self):
        for book in all_books(3):
            lists = [clauses for many in range(3) for clauses in product(product(range(3), (4, 5)), repeat=many)]
            for one, other in product(lists[::2], lists[::3]):
                self.held_against_all(book, one, other)

    def test_drawn(self):
        draw = Random(3)
        for book in all_books(4)[::2] + drawn_books(30, 6) + drawn_books(10, 8, 2):
            many = len(book.parents)
            for _ in range(4):
                one = drawn_clauses(draw, many, draw.randrange(1, 7))
                other = drawn_clauses(draw, many, draw.randrange(1, 7))
                self.held_against_all(book, one, other)
                self.held_against_all(book, one, one)

    def test_lists_a_little_altered(self):
        draw = Random(4)
        seen = {None: 0, 1: 0, 2: 0}
        for book in drawn_books(40, 6) + drawn_books(20, 7, 1) + [flat_book(5), row_book(5), grid_book(2, 4)] * 3:
            many = len(book.parents)
            for _ in range(5):
                one = drawn_clauses(draw, many, draw.randrange(1, 8), 4)
                other = altered(draw, one, many)
                self.held_against_all(book, one, other)
                lot = parting(book, one, other)
                seen[None if lot is None else len(lot)] += 1
        for times in seen.values():
            self.assertGreater(times, 10)

    def test_known(self):
        self.assertEqual(never_met(FORK, ((0, 5), (2, 6), (1, 7))), (1,))
        self.assertEqual(never_met(FORK, ((2, 6), (0, 5), (1, 7))), ())
        self.assertEqual(never_met(FORK, ((1, 1), (1, 1), (0, 2), (3, 1), (2, 9), (3, 1))), (1, 3, 4, 5))
        self.assertEqual(never_met(FORK, ()), ())
        self.assertEqual(parting(FORK, ((0, 5), (1, 7)), ((1, 7), (0, 5))), (2,))
        self.assertEqual(parting(flat_book(3), ((1, 5), (2, 7)), ((2, 7), (1, 5))), (1, 2))
        self.assertIsNone(parting(flat_book(3), ((1, 5), (2, 5)), ((2, 5), (1, 5))))
        self.assertEqual(parting(FORK, ((3, 5),), ()), (3,))
        self.assertEqual(parting(FORK, ((3, 5),), ((3, 6),)), (3,))
        self.assertEqual(parting(FORK, ((3, 5), (2, 4)), ((2, 4), (3, 5))), (2, 3))
        self.assertIs(alike(Book(()), (), ()), True)
        self.assertIsNone(parting(Book(()), (), ()))

    def test_no_parents_never_part(self):
        for book in small_books():
            self.assertNotEqual(parting(book, (), ()), ())
        self.assertIsNone(parting(FORK, (), ()))


class GreatBooks(unittest.TestCase):
    def slow_least(self, one, other, ups):
        """The least lot of one kind, then of two, that parts the lists."""
        def first(clauses, up):
            return min([at for at, (kind, _) in enumerate(clauses) if kind in up], default=len(clauses))

        labels = [[label for _, label in clauses] + [None] for clauses in (one, other)]
        places = [[first(clauses, up) for up in ups] for clauses in (one, other)]
        for size in (1, 2):
            for lot in combinations(range(len(ups)), size):
                told = [labels[i][min(places[i][kind] for kind in lot)] for i in (0, 1)]
                if told[0] != told[1]:
                    return lot
        return None

    def test_hundreds_of_kinds(self):
        draw = Random(5)
        books = [drawn_book(3, 300, 3), grid_book(20, 20), flat_book(400), row_book(400), drawn_book(4, 400, 1)]
        for book in books + [beside(flat_book(300), flat_book(150))]:
            many = len(book.parents)
            ups = walked_all(book)
            one = tuple((draw.randrange(many), label) for label in range(40))
            for other in (one[::-1], one[:39], altered(draw, one, many), one[:39] + one[38:39]):
                lot = parting(book, one, other)
                self.assertEqual(lot, self.slow_least(one, other, ups))
                self.assertIs(alike(book, one, other), lot is None)
            never = [at for at in range(40) if any(one[i][0] in ups[one[at][0]] for i in range(at))]
            self.assertEqual(never_met(book, one), tuple(never))


class Wrong(unittest.TestCase):
    def test_no_clauses_ahead_of_no_kind(self):
        right = ((0, 1),)
        for thing in no_clauses(4):
            for action in (
                lambda: label_of(FORK, thing, 0), lambda: label_of(FORK, thing, None), lambda: label_of(FORK, thing, 9),
                lambda: never_met(FORK, thing), lambda: alike(FORK, thing, right), lambda: alike(FORK, right, thing),
                lambda: parting(FORK, thing, right), lambda: parting(FORK, right, thing),
                lambda: parting(FORK, thing, thing),
            ):
                with self.assertRaises(NoClauses):
                    action()

    def test_kinds_of_the_book_alone(self):
        for action in (lambda: label_of(Book(()), ((0, 1),), 0), lambda: never_met(Book(()), ((0, 1),))):
            self.assertRaises(NoClauses, action)

    def test_no_kind(self):
        for thing in kinds_that_are_none(4):
            with self.assertRaises(NoKind):
                label_of(FORK, ((0, 1),), thing)
        self.assertRaises(NoKind, label_of, Book(()), (), 0)

    def test_forty_are_right(self):
        clauses = tuple((at & 3, 10 ** 79 - at) for at in range(40))
        self.assertEqual(label_of(FORK, clauses, 1), 10 ** 79 - 1)
        self.assertEqual(never_met(FORK, clauses), tuple(range(2, 40)))
        self.assertIs(alike(FORK, clauses, clauses), True)


if __name__ == "__main__":
    unittest.main()

import copy
import unittest
from itertools import product
from random import Random

from latekinds.books import Book
from latekinds.errors import NoDealing, NoKind, NoScheme
from latekinds.schemes import first_wrong, is_scheme, many_slots, says, scheme_of, slots_of
from latekinds.widths import dealing, is_dealing, width
from tests.helpers import (
    drawn_book, drawn_books, drawn_dealing, drawn_scheme, flat_book, grid_book, kinds_that_are_none, no_schemes,
    odd_numbers, odd_things, odd_tuples, row_book, slow_says, small_books, walked, walked_all,
)

FORK = Book(((), (), (0, 1), (0,)))
GREAT = 10 ** 71 + 7


def books():
    drawn = drawn_books(12, 7) + drawn_books(6, 15, 2)
    return small_books()[::3] + drawn + [row_book(6), flat_book(5), grid_book(3, 4)]


def slow_wrong(book, scheme):
    """All pairs (x, p) of which the scheme says what is not so, ascending."""
    ups = walked_all(book)
    kinds = range(len(ups))
    return [(x, p) for x in kinds for p in kinds if slow_says(scheme, x, p) != (p in ups[x])]


def slow_scheme_of(book, rows):
    """The triples that 3.2 names."""
    ups = walked_all(book)
    triples = []
    for kind in range(len(ups)):
        slot = [at for at, row in enumerate(rows) if kind in row][0]
        entries = []
        for row in rows:
            numbers = [at + 1 for at, other in enumerate(row) if other in ups[kind]]
            entries.append(numbers[-1] if numbers else 0)
        triples.append((slot, rows[slot].index(kind) + 1, tuple(entries)))
    return tuple(triples)


def changed(scheme, draw):
    """The scheme with one entry, number, slot or row changed."""
    at = draw.randrange(len(scheme))
    slot, number, row = scheme[at]
    sort = draw.randrange(6)
    if sort == 0 and row:
        place = draw.randrange(len(row))
        row = row[:place] + (row[place] + draw.choice([-1, 1]),) + row[place + 1:]
    elif sort == 1:
        number += draw.choice([-1, 1])
    elif sort == 2:
        slot = draw.choice([slot + 1, max(0, slot - 1), GREAT])
    elif sort == 3:
        row = row[:draw.randrange(len(row) + 1)]
    elif sort == 4:
        row = row + (draw.randrange(4),)
    else:
        row = draw.choice(scheme)[2]
    return scheme[:at] + ((slot, number, row),) + scheme[at + 1:]


class Saying(unittest.TestCase):
    def test_any_schemes_against_the_words(self):
        for seed in range(60):
            scheme = drawn_scheme(seed, seed % 9)
            for x in range(len(scheme)):
                for p in range(len(scheme)):
                    self.assertIs(says(scheme, x, p), slow_says(scheme, x, p))

    def test_one_above_and_one_below(self):
        for number in (-GREAT, -1, 0, 1, GREAT):
            for slot in (0, 1, 5):
                for step in (-1, 0, 1):
                    row = (number - 1,) * slot + (number + step,)
                    scheme = ((slot, number, ()), (0, 0, row))
                    self.assertIs(says(scheme, 1, 0), step >= 0)
                    self.assertIs(says(scheme, 0, 0), False)
                    self.assertIs(says(((slot + 1, number, ()), (0, 0, row)), 1, 0), False)

    def test_slots_that_no_row_reaches(self):
        scheme = ((GREAT, -GREAT, (5,) * 9), (9, -1, (5,) * 9), (8, 5, (5,) * 9))
        self.assertEqual([says(scheme, 0, p) for p in range(3)], [False, False, True])

    def test_right_schemes(self):
        for book in books():
            ups = walked_all(book)
            scheme = scheme_of(book, dealing(book))
            for x in range(len(ups)):
                for p in range(len(ups)):
                    self.assertIs(says(scheme, x, p), p in ups[x])

    def test_what_is_no_scheme_or_no_kind(self):
        scheme = ((0, 1, (1,)), (0, 2, (2,)))
        for thing in no_schemes():
            for x, p in ((0, 0), (None, 5), (7, 0)):
                with self.assertRaises(NoScheme):
                    says(thing, x, p)
        for thing in kinds_that_are_none(2):
            for x, p in ((thing, 0), (0, thing), (thing, thing)):
                with self.assertRaises(NoKind):
                    says(scheme, x, p)
        with self.assertRaises(NoKind):
            says((), 0, 0)

    def test_schemes_of_many_kinds(self):
        scheme = ((0, 1, (1,)),) * 900
        self.assertIs(says(scheme, 899, 0), True)
        with self.assertRaises(NoKind):
            says(scheme, 900, 0)


class Judging(unittest.TestCase):
    def judged(self, book, scheme):
        wrong = slow_wrong(book, scheme)
        self.assertIs(is_scheme(book, scheme), not wrong)
        self.assertEqual(first_wrong(book, scheme), wrong[0] if wrong else None)
        return not wrong

    def test_drawn_dealings_and_one_thing_changed(self):
        draw = Random(31)
        right = 0
        for seed, book in enumerate(books()):
            scheme = scheme_of(book, drawn_dealing(book, seed))
            self.assertTrue(self.judged(book, scheme))
            for _ in range(12 if scheme else 0):
                right += self.judged(book, changed(scheme, draw))
        self.assertGreater(right, 20)

    def test_any_schemes(self):
        for seed in range(80):
            self.judged(drawn_book(seed, 5, 2), drawn_scheme(seed, 5))

    def test_small_schemes_all_gone_through(self):
        triples = list(product((0, 1), (0, 1), ((), (0,), (1,), (0, 1), (1, 1))))
        for parents in (((), ()), ((), (0,))):
            book = Book(parents)
            let = [scheme for scheme in product(triples, repeat=2) if self.judged(book, scheme)]
            self.assertTrue(let)
            self.assertEqual(any(one[0] == other[0] for one, other in let), parents[1] != ())

    def test_two_side_by_side_never_have_one_slot(self):
        entries = (-1, 0, 1)
        rows = [row for size in (0, 1, 2) for row in product(entries, repeat=size)]
        for slot in (0, 1):
            for one, other, row, row_too in product(entries, entries, rows, rows):
                self.assertIs(is_scheme(flat_book(2), ((slot, one, row), (slot, other, row_too))), False)
        for seed, book in enumerate(drawn_books(20, 9)):
            scheme = scheme_of(book, drawn_dealing(book, seed))
            ups = walked_all(book)
            for a in range(9):
                for b in range(a):
                    if b not in ups[a]:
                        moved = scheme[:a] + ((scheme[b][0],) + scheme[a][1:],) + scheme[a + 1:]
                        self.assertIs(is_scheme(book, moved), False)

    def test_by_what_is_let_each_slot_is_a_row(self):
        draw = Random(5)
        for seed, book in enumerate(books()):
            scheme = scheme_of(book, drawn_dealing(book, seed + 50))
            for _ in range(8 if scheme else 0):
                thing = changed(scheme, draw)
                if is_scheme(book, thing):
                    slots = slots_of(thing)
                    rows = [tuple(at for at, slot in enumerate(slots) if slot == one) for one in sorted(set(slots))]
                    self.assertTrue(is_dealing(book, tuple(rows)))

    def test_numbers_with_gaps_and_slots_in_any_order(self):
        book = row_book(3)
        scheme = ((7, -5, (0,) * 7 + (-5,)), (7, 0, (0,) * 7 + (-0,)), (7, GREAT, (0,) * 7 + (GREAT,)))
        self.assertIs(is_scheme(book, scheme), True)
        self.assertIsNone(first_wrong(book, scheme))
        self.assertEqual(first_wrong(book, scheme[:2] + ((7, GREAT, (0,) * 7 + (GREAT - 1,)),)), (2, 2))
        self.assertEqual(first_wrong(book, scheme[:1] + ((7, 0, (0,) * 7 + (-6,)),) + scheme[2:]), (1, 0))
        self.assertEqual(first_wrong(book, ((7, -5, (0,) * 8),) + scheme[1:]), (0, 1))

    def test_one_kind_more_or_less(self):
        for book in (Book(()), FORK, row_book(3)):
            scheme = scheme_of(book, dealing(book))
            for thing in (scheme + ((0, 1, (1,)),), scheme[:-1], scheme[1:], scheme + scheme):
                if len(thing) != len(scheme):
                    self.assertIs(is_scheme(book, thing), False)
                    with self.assertRaises(NoScheme):
                        first_wrong(book, thing)

    def test_no_kinds(self):
        self.assertIs(is_scheme(Book(()), ()), True)
        self.assertIsNone(first_wrong(Book(()), ()))
        self.assertEqual(slots_of(()), ())
        self.assertEqual(many_slots(()), 0)
        self.assertEqual(scheme_of(Book(()), ()), ())

    def test_other_things(self):
        for thing in no_schemes():
            for book in (FORK, row_book(1), row_book(2)):
                self.assertIs(is_scheme(book, thing), False)
                with self.assertRaises(NoScheme):
                    first_wrong(book, thing)
            for action in (slots_of, many_slots):
                with self.assertRaises(NoScheme):
                    action(thing)

    def test_great_books(self):
        for book in (drawn_book(3, 150, 3), flat_book(120), row_book(200)):
            scheme = scheme_of(book, dealing(book))
            self.assertIs(is_scheme(book, scheme), True)
            x = len(scheme) - 1
            slot, number, row = scheme[x]
            cut = scheme[:x] + ((slot, number, row[:slot]),)
            wrong = [p for p in range(x + 1) if slow_says(cut, x, p) != (p in walked(book, x))]
            self.assertEqual(first_wrong(book, cut), (x, wrong[0]))


class Slots(unittest.TestCase):
    def test_slots_kind_by_kind(self):
        scheme = ((3, 0, ()), (0, -1, (2,)), (3, 9, (1, 1)), (GREAT, 0, ()))
        self.assertEqual(slots_of(scheme), (3, 0, 3, GREAT))
        self.assertIs(type(slots_of(scheme)), tuple)
        self.assertEqual(many_slots(scheme), 3)
        for seed in range(20):
            scheme = drawn_scheme(seed, 12)
            self.assertEqual(slots_of(scheme), tuple(triple[0] for triple in scheme))
            self.assertEqual(many_slots(scheme), len({triple[0] for triple in scheme}))


class SchemeOf(unittest.TestCase):
    def test_drawn_dealings(self):
        for seed, book in enumerate(books()):
            for rows in (drawn_dealing(book, seed), drawn_dealing(book, -seed), dealing(book)):
                scheme = scheme_of(book, rows)
                self.assertEqual(scheme, slow_scheme_of(book, rows))
                self.assertIs(is_scheme(book, scheme), True)
                self.assertEqual(many_slots(scheme), len(rows))
            self.assertEqual(many_slots(scheme), width(book))

    def test_known(self):
        rows = ((1, 2), (3,), (0,))
        self.assertEqual(
            scheme_of(FORK, rows), ((2, 1, (0, 0, 1)), (0, 1, (1, 0, 0)), (0, 2, (2, 0, 1)), (1, 1, (0, 1, 1)))
        )

    def test_no_dealing_just_for_what_is_none(self):
        rows = [row for size in range(3) for row in product(range(3), repeat=size)] + [(0, 1, 2)]
        for book in [book for book in small_books() if len(book.parents) == 3]:
            for size in range(4):
                for thing in product(rows, repeat=size):
                    if is_dealing(book, thing):
                        self.assertEqual(scheme_of(book, thing), slow_scheme_of(book, thing))
                    else:
                        with self.assertRaises(NoDealing):
                            scheme_of(book, thing)

    def test_other_things(self):
        for thing in odd_things() + odd_tuples() + odd_numbers() + [
            [(0, 2), (1,), (3,)], ([0, 2], (1,), (3,)), ((0, 2), (1,), (3,), ()), ((0, 2), (True,), (3,)),
            ((0, 2), (1,)), ((2, 0), (1,), (3,)), ((0, 1), (2,), (3,)),
        ]:
            with self.assertRaises(NoDealing):
                scheme_of(FORK, thing)


class NothingChanges(unittest.TestCase):
    def test_arguments_stay(self):
        for book in (FORK, grid_book(3, 3)):
            twin = copy.deepcopy(book)
            rows = dealing(book)
            scheme = scheme_of(book, rows)
            kept = copy.deepcopy((rows, scheme))
            is_scheme(book, scheme), first_wrong(book, scheme), says(scheme, 1, 0), slots_of(scheme), many_slots(scheme)
            self.assertEqual((rows, scheme), kept)
            self.assertEqual(vars(book), vars(twin))
            listed = [[0, 1, [1]]]
            self.assertIs(is_scheme(book, listed), False)
            self.assertEqual(listed, [[0, 1, [1]]])


if __name__ == "__main__":
    unittest.main()

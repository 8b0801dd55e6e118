import copy
import unittest

from latekinds.books import Book, beginning, plain, reordered
from latekinds.rule import groups, placed, told_scheme
from latekinds.schemes import is_scheme, many_slots, slots_of
from latekinds.widths import is_side_by_side, width
from tests.helpers import (
    drawn_book, drawn_books, drawn_tree, flat_book, grid_book, row_book, rows_book, small_books, walked_all,
)

FORK = Book(((), (), (0, 1), (0,)))


def by_hand(book):
    """The triples and the groups (a dict from 1 on) that the told rule gives, as 4.1 says."""
    ups = walked_all(book)
    held = {}
    kept = {}
    triples = []
    for x, up in enumerate(ups):
        i = 1
        while True:
            group = kept.setdefault(i, set())
            fitting = sorted(slot for slot in group if held[slot][-1] in up)
            if fitting or len(group) < i:
                break
            i += 1
        slot = fitting[0] if fitting else len(held)
        held.setdefault(slot, []).append(x)
        if i == 1:
            kept[1] = kept[1] | {slot}
        else:
            kept[i - 1], kept[i] = kept[i] - {slot}, kept[i - 1] | {slot}
        row = tuple(len([kind for kind in held[slot] if kind in up]) for slot in range(len(held)))
        triples.append((slot, len(held[slot]), row))
    return tuple(triples), kept


def groups_by_hand(book):
    kept = by_hand(book)[1]
    last = max([i for i, group in kept.items() if group], default=0)
    return tuple(tuple(sorted(kept[i])) for i in range(1, last + 1))


def middle_books():
    books = small_books() + drawn_books(40, 9) + drawn_books(40, 14, 2)
    books += drawn_books(10, 30, 2) + drawn_books(10, 40, 5)
    books += [drawn_book(seed, 60, 2, reach) for seed in range(6) for reach in (3, 5, 8)]
    books += [drawn_tree(seed, 25, 2) for seed in range(6)]
    return books + [row_book(9), flat_book(12), grid_book(5, 6), rows_book(4, 1, 3, 2)]


def great_books():
    return [row_book(400), flat_book(400), grid_book(20, 20), drawn_book(5, 300, 3, 30), drawn_book(6, 300, 2, 9)]


class ToldRule(unittest.TestCase):
    def test_against_the_rule_led_by_hand(self):
        for book in middle_books() + great_books()[2:]:
            triples, _ = by_hand(book)
            self.assertEqual(placed(book), tuple(triple[0] for triple in triples))
            self.assertEqual(told_scheme(book), triples)
            self.assertEqual(groups(book), groups_by_hand(book))

    def test_known(self):
        self.assertEqual(told_scheme(FORK), ((0, 1, (1,)), (1, 1, (0, 1)), (2, 1, (1, 1, 1)), (0, 2, (2, 0, 0))))
        self.assertEqual(placed(flat_book(4)), (0, 1, 2, 3))
        self.assertEqual(groups(flat_book(2)), ((), (0, 1)))
        self.assertEqual(groups(flat_book(4)), ((2,), (), (0, 1, 3)))
        self.assertEqual(placed(row_book(5)), (0,) * 5)
        self.assertEqual(told_scheme(row_book(3)), ((0, 1, (1,)), (0, 2, (2,)), (0, 3, (3,))))
        self.assertEqual(groups(row_book(5)), ((0,),))

    def test_no_kinds(self):
        for action in (placed, groups, told_scheme):
            self.assertEqual(action(Book(())), ())

    def test_results_are_tuples(self):
        for book in (FORK, flat_book(4)):
            self.assertTrue(all(type(group) is tuple for group in groups(book)))
            self.assertTrue(all(type(triple) is tuple and type(triple[2]) is tuple for triple in told_scheme(book)))
            for thing in (placed(book), groups(book), told_scheme(book)):
                self.assertIs(type(thing), tuple)

    def test_a_longer_book_changes_nothing(self):
        for book in middle_books()[::3]:
            slots = placed(book)
            scheme = told_scheme(book)
            for many in range(len(slots)):
                part = beginning(book, many)
                self.assertEqual(placed(part), slots[:many])
                self.assertEqual(told_scheme(part), scheme[:many])

    def test_each_beginning_is_a_right_scheme(self):
        for book in middle_books()[::2]:
            for many in range(0, len(book.parents) + 1, 3):
                self.assertIs(is_scheme(beginning(book, many), told_scheme(book)[:many]), True)
            self.assertIs(is_scheme(book, told_scheme(book)), True)
        for book in great_books():
            self.assertIs(is_scheme(book, told_scheme(book)), True)
            self.assertEqual(slots_of(told_scheme(book)), placed(book))

    def test_few_slots_and_small_groups(self):
        for book in middle_books() + great_books():
            wide = width(book)
            kept = groups(book)
            slots = placed(book)
            self.assertLessEqual(many_slots(told_scheme(book)), wide * (wide + 1) // 2)
            self.assertEqual(sorted(slot for group in kept for slot in group), sorted(set(slots)))
            self.assertTrue(all(len(group) <= at + 1 for at, group in enumerate(kept)))
            self.assertTrue(not kept or kept[-1])
            for group in kept:
                lasts = [max(kind for kind, slot in enumerate(slots) if slot == one) for one in group]
                self.assertIs(is_side_by_side(book, tuple(sorted(lasts))), True)

    def test_only_who_is_what_counts(self):
        for book in middle_books()[::4]:
            full = Book(tuple(tuple(sorted(up - {kind}))[-6:] for kind, up in enumerate(walked_all(book))))
            if walked_all(full) != walked_all(book):
                full = book
            for other in (plain(book), full, reordered(book, tuple(range(len(book.parents))))):
                self.assertEqual(told_scheme(other), told_scheme(book))
                self.assertEqual(groups(other), groups(book))

    def test_arguments_stay(self):
        book = grid_book(4, 4)
        twin = copy.deepcopy(book)
        placed(book), groups(book), told_scheme(book)
        self.assertEqual(vars(book), vars(twin))

    def test_more_slots_than_width(self):
        needed = [len(set(placed(book))) - width(book) for book in middle_books()]
        self.assertEqual(min(needed), 0)
        self.assertGreater(max(needed), 0)


if __name__ == "__main__":
    unittest.main()

import copy
import unittest
from itertools import combinations, product

from latekinds.books import Book, beside, loaded
from latekinds.errors import TooMany
from latekinds.widths import all_widest, dealing, is_dealing, is_side_by_side, widest, width, widths
from tests.helpers import (
    all_books, drawn_book, drawn_books, flat_book, grid_book, odd_numbers, odd_things, odd_tuples, row_book, rows_book,
    slow_side_by_side, slow_widest, small_books, walked_all,
)

FORK = Book(((), (), (0, 1), (0,)))
THREE = Book(((), (), (), (0, 1), (0, 2), (1, 2)))


def middle_books():
    return all_books(5)[::5] + drawn_books(25, 8) + drawn_books(25, 10, 2) + drawn_books(5, 11, 4)


def great_books():
    books = [drawn_book(seed, 70, most) for seed in range(12) for most in (1, 2, 3, 6)]
    books += [drawn_book(seed, 70, 2, reach) for seed in range(6) for reach in (3, 6, 12)]
    books += [row_book(400), flat_book(400), grid_book(20, 20), grid_book(8, 50), grid_book(50, 8)]
    books += [rows_book(*[20] * 20), rows_book(*[2] * 200), drawn_book(77, 400, 3, 40), drawn_book(78, 400, 6)]
    return books


def right_dealing(book, rows):
    """Whether it is a dealing, by walking along the parents."""
    ups = walked_all(book)
    if sorted(kind for row in rows for kind in row) != list(range(len(ups))):
        return False
    return all(row and all(a != b and a in ups[b] for a, b in zip(row, row[1:])) for row in rows)


class Widths(unittest.TestCase):
    def test_small_books_against_all_lots(self):
        for book in small_books() + middle_books():
            lots = slow_widest(book)
            self.assertEqual(width(book), len(lots[0]))
            self.assertEqual(widest(book), lots[0])
            self.assertEqual(all_widest(book), lots)
            rows = dealing(book)
            self.assertTrue(right_dealing(book, rows), (book.parents, rows))
            self.assertEqual(len(rows), len(lots[0]))

    def test_widths_are_those_of_the_beginnings(self):
        for book in small_books() + middle_books()[::3]:
            many = len(book.parents)
            slow = tuple(len(slow_widest(Book(book.parents[:end]))[0]) for end in range(many + 1))
            self.assertEqual(widths(book), slow)

    def test_no_kinds(self):
        empty = Book(())
        self.assertEqual(width(empty), 0)
        self.assertEqual(widest(empty), ())
        self.assertEqual(dealing(empty), ())
        self.assertEqual(widths(empty), (0,))
        self.assertEqual(all_widest(empty), [()])

    def test_greater_books_by_as_many_rows_as_side_by_side(self):
        for book in great_books():
            ups = walked_all(book)
            lot = widest(book)
            self.assertEqual(list(lot), sorted(set(lot)))
            self.assertTrue(all(a not in ups[b] for a, b in combinations(lot, 2)))
            rows = dealing(book)
            self.assertTrue(right_dealing(book, rows))
            self.assertEqual(len(rows), len(lot))
            self.assertEqual(width(book), len(lot))
            steps = widths(book)
            self.assertEqual(len(steps), len(ups) + 1)
            self.assertEqual((steps[0], steps[-1]), (0, len(lot)))
            self.assertTrue(all(b - a in (0, 1) for a, b in zip(steps, steps[1:])))
            for end in range(0, len(ups), 23):
                self.assertEqual(steps[end], len(widest(Book(book.parents[:end]))))

    def test_known_widths(self):
        self.assertEqual(width(row_book(400)), 1)
        self.assertEqual(widest(row_book(400)), (0,))
        self.assertEqual(dealing(row_book(400)), (tuple(range(400)),))
        self.assertEqual(widths(row_book(400)), (0,) + (1,) * 400)
        self.assertEqual(width(flat_book(400)), 400)
        self.assertEqual(widest(flat_book(400)), tuple(range(400)))
        self.assertEqual(sorted(dealing(flat_book(400))), [(kind,) for kind in range(400)])
        self.assertEqual(widths(flat_book(400)), tuple(range(401)))
        self.assertEqual(width(grid_book(20, 20)), 20)
        self.assertEqual(width(grid_book(8, 50)), 8)
        self.assertEqual(widest(grid_book(2, 5)), (1, 5))
        self.assertEqual(widest(rows_book(3, 3)), (0, 3))

    def test_more_kinds_than_may_be_constructed(self):
        both = beside(flat_book(400), row_book(400))
        self.assertEqual(width(both), 401)
        self.assertEqual(widest(both), tuple(range(401)))
        self.assertEqual(len(all_widest(both)), 400)
        self.assertTrue(is_dealing(both, dealing(both)))

    def test_turning_links_about(self):
        # 0 is ahead of 2 and 3, 1 of 2 alone: linking 2 with 0 first must be taken back for 3.
        book = Book(((), (), (0, 1), (0,)))
        self.assertEqual(sorted(dealing(book)), [(0, 3), (1, 2)])

    def test_results_are_tuples(self):
        for book in (Book(()), FORK, THREE):
            for thing in (widest(book), dealing(book), widths(book)):
                self.assertIs(type(thing), tuple)
            self.assertTrue(all(type(row) is tuple for row in dealing(book)))
            self.assertIs(type(all_widest(book)), list)
            self.assertTrue(all(type(lot) is tuple for lot in all_widest(book)))
            self.assertIs(type(width(book)), int)


class AllWidest(unittest.TestCase):
    def test_ascending_and_each_once(self):
        book = rows_book(3, 4, 2)
        self.assertEqual(all_widest(book), sorted(product((0, 1, 2), (3, 4, 5, 6), (7, 8))))

    def test_five_hundred_and_no_more(self):
        for sizes in ((5, 5, 5, 4), (250, 2), (2, 2, 5, 5, 5), (125, 4)):
            lots = all_widest(rows_book(*sizes))
            self.assertEqual(len(lots), 500)
            self.assertEqual(lots, sorted(set(lots)))
        for sizes in ((3, 167), (167, 3), (8, 8, 8), (2,) * 9, (2,) * 200, (200, 200), (20,) * 20):
            with self.assertRaises(TooMany) as caught:
                all_widest(rows_book(*sizes))
            self.assertEqual(caught.exception.most, 500)

    def test_five_hundred_in_one_row(self):
        book = row_book(400)
        for kind in range(400, 500):
            book = loaded(book, (kind - 1,))
        self.assertEqual(all_widest(book), [(kind,) for kind in range(500)])
        with self.assertRaises(TooMany):
            all_widest(loaded(book, (499,)))

    def test_few_in_great_books(self):
        self.assertEqual(all_widest(flat_book(400)), [tuple(range(400))])
        self.assertEqual(all_widest(row_book(400)), [(kind,) for kind in range(400)])
        self.assertEqual(len(all_widest(grid_book(20, 20))), 1)

    def test_new_lists(self):
        first = all_widest(THREE)
        first.append(5)
        self.assertEqual(all_widest(THREE), [(0, 1, 2), (3, 4, 5)])


class Judging(unittest.TestCase):
    def judged(self, judge, book, thing, right):
        got = judge(book, thing)
        self.assertIs(got, right, (book.parents, repr(thing)[:200]))

    def test_side_by_side_against_all_lots(self):
        for book in small_books() + middle_books()[::6]:
            many = len(book.parents)
            right = set(slow_side_by_side(book))
            for size in range(min(many, 6) + 1):
                for lot in combinations(range(many), size):
                    self.judged(is_side_by_side, book, lot, lot in right)

    def test_side_by_side_is_a_lot(self):
        flat = flat_book(4)
        for thing in ((), (0,), (3,), (0, 3), (0, 1, 2, 3)):
            self.judged(is_side_by_side, flat, thing, True)
            self.judged(is_side_by_side, flat, list(thing), False)
        for thing in ((1, 0), (0, 0), (4,), (-1,), (0, 4), (False,), (0, True), (True,), ("0",), ((0,),), (None,), 0):
            self.judged(is_side_by_side, flat, thing, False)
        self.judged(is_side_by_side, row_book(3), (0, 2), False)
        self.judged(is_side_by_side, Book(()), (), True)
        self.judged(is_side_by_side, Book(()), (0,), False)
        self.judged(is_side_by_side, flat_book(400), tuple(range(400)), True)

    def test_dealings_of_any_number_of_rows(self):
        for thing in (((0, 2), (1,), (3,)), ((3,), (1,), (0, 2)), ((0,), (1,), (2,), (3,)), ((0, 3), (1, 2))):
            self.judged(is_dealing, FORK, thing, True)
        self.judged(is_dealing, row_book(4), ((0, 2), (1, 3)), True)
        self.judged(is_dealing, row_book(4), ((0, 3), (1, 2)), True)
        self.judged(is_dealing, row_book(4), ((0, 1, 2, 3),), True)
        self.judged(is_dealing, Book(()), (), True)
        self.judged(is_dealing, Book(()), ((),), False)
        self.judged(is_dealing, FORK, (), False)

    def test_what_is_no_dealing(self):
        for thing in (
            ((0, 2), (1,)), ((0, 2), (1, 2), (3,)), ((0, 2), (1,), (3,), (3,)), ((0, 2), (1, 3)), ((0, 1), (2,), (3,)),
            ((2, 0), (1,), (3,)), ((0, 2), (1,), (3,), ()), ((), (0, 2), (1,), (3,)), ((0, 2, 3), (1,)),
            ((0, 2), (1,), (4,)), ((0, 2), (1,), (-1,)), ((0, 2), (1,), (3, 4)), ((0, 2), (1,), 3),
            [(0, 2), (1,), (3,)], ((0, 2), [1], (3,)), ((0, 2), (True,), (3,)), ((False, 2), (1,), (3,)),
            ((0, 2), (1,), ("3",)), ((0, 2), (1,), ((3,),)), ((0, 0, 2), (1,), (3,)), (0, 2, 1, 3), "0213", None, True,
            {0: (0, 2)}, ((0, 2), (1,), None), ((0, 2), (1,), (None,)),
        ):
            self.judged(is_dealing, FORK, thing, False)

    def test_small_dealings_against_walking(self):
        for book in [book for book in small_books() if len(book.parents) == 3]:
            rows = [row for size in range(3) for row in product(range(3), repeat=size)] + [(0, 1, 2), (0, 2, 1)]
            for size in range(4):
                for thing in product(rows, repeat=size):
                    self.judged(is_dealing, book, thing, right_dealing(book, thing))

    def test_odd_things(self):
        for book in (FORK, row_book(2), Book(((),) * 3), flat_book(400)):
            for thing in odd_things() + odd_tuples() + odd_numbers():
                self.judged(is_dealing, book, thing, False)
                self.judged(is_side_by_side, book, thing, False)
                self.judged(is_dealing, book, ((0,), thing), False)
                self.judged(is_side_by_side, book, (0, thing), False)

    def test_dealings_that_are_told_are_right(self):
        for book in great_books()[::4]:
            rows = dealing(book)
            self.judged(is_dealing, book, rows, True)
            self.judged(is_dealing, book, rows[1:], False)
            self.judged(is_dealing, book, rows + rows[:1], False)
            self.judged(is_side_by_side, book, widest(book), True)


class NothingChanges(unittest.TestCase):
    def test_arguments_stay(self):
        for book in (FORK, THREE, grid_book(4, 5)):
            twin = copy.deepcopy(book)
            width(book), widest(book), dealing(book), widths(book), all_widest(book)
            is_dealing(book, dealing(book)), is_side_by_side(book, widest(book))
            self.assertEqual(vars(book), vars(twin))
            rows = [[0], [1]]
            self.assertFalse(is_dealing(book, rows))
            self.assertFalse(is_side_by_side(book, rows[0]))
            self.assertEqual(rows, [[0], [1]])

    def test_equal_calls_give_equal_answers(self):
        book = drawn_book(9, 70, 2, 8)
        twin = Book(book.parents)
        self.assertEqual(dealing(book), dealing(twin))
        self.assertEqual(dealing(book), dealing(book))


if __name__ == "__main__":
    unittest.main()

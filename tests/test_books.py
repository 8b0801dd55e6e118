import copy
import unittest
from itertools import permutations
from random import Random

from latekinds.books import (
    Book, beginning, beside, forebears, heirs, is_a, loaded, plain, reordered,
)
from latekinds.errors import BadBook, BadKind, KindError, NoKind, NoNumber, NoOrder
from tests.helpers import (
    all_books, deep, drawn_book, drawn_books, flat_book, grid_book, odd_numbers, odd_things, odd_tuples, row_book,
    small_books, walked, walked_all,
)

FORK = Book(((), (), (0, 1), (0,)))


def relation(book):
    return [sorted(up) for up in walked_all(book)]


class Construction(unittest.TestCase):
    def refused(self, at, thing):
        with self.assertRaises(BadBook) as caught:
            Book(thing)
        self.assertEqual(caught.exception.at, at, repr(thing)[:200])
        self.assertIs(type(caught.exception.at), int)

    def test_parents_are_kept(self):
        for parents in ((), ((),), ((), (0,)), ((), (), (0, 1), (0,))):
            self.assertEqual(Book(parents).parents, parents)
            self.assertIs(type(Book(parents).parents), tuple)

    def test_four_hundred_kinds_and_no_more(self):
        self.assertEqual(Book(((),) * 400).parents, ((),) * 400)
        self.refused(-1, ((),) * 401)
        self.refused(-1, ((), 5) + ((),) * 399)
        self.refused(399, ((),) * 399 + (5,))

    def test_six_parents_and_no_more(self):
        flat = ((),) * 7
        self.assertEqual(Book(flat + ((0, 1, 2, 4, 5, 6),)).parents[7], (0, 1, 2, 4, 5, 6))
        self.refused(7, flat + ((0, 1, 2, 3, 4, 5, 6),))

    def test_parents_that_are_none(self):
        three = ((), (), ())
        for row in ((1, 0), (0, 0), (0, 1, 1), (0, 2, 1), (3,), (0, 3), (4,), (-1,), (-1, 0), (0, -1), (10 ** 79,),
                    (True,), (False,), (0, True), (None,), ("0",), ((0,),), ([],), [], [0], [0, 1], "", "0", None, 0,
                    {}, {0: 1}, b"\x00", range(1)):
            self.refused(3, three + (row,))
            self.refused(3, three + (row, 5, (9,)))

    def test_the_first_item_that_is_none(self):
        self.refused(0, ((0,),))
        self.refused(0, ((0,), (1,)))
        self.refused(1, ((), (1,), (2,)))
        self.refused(0, (0,))
        self.refused(0, ("ab", ()))

    def test_no_tuple(self):
        for thing in odd_things():
            self.refused(-1, thing)
        for thing in odd_numbers():
            self.refused(-1, thing)

    def test_odd_items(self):
        for thing in odd_things():
            self.refused(0, (thing,))
            self.refused(2, ((), (0,), thing, thing))
            self.refused(2, ((), (0,), (thing,), 7))
            self.refused(2, ((), (0,), (0, thing)))
        self.refused(-1, (None,) * 9999)
        self.refused(1, ((), (True,) * 9000))

    def test_deep_things(self):
        for wrap in (lambda x: (x,), lambda x: [x], lambda x: {"a": x}, lambda x: ((), x)):
            for core in (0, (), None):
                for depth in (3, 20, 38, 39):
                    thing = deep(depth, wrap, core)
                    with self.assertRaises(BadBook) as caught:
                        Book(thing)
                    self.assertIn(caught.exception.at, (-1, 0, 1))
        self.refused(1, ((), deep(38, lambda x: (x,), 0)))

    def test_equality(self):
        self.assertTrue(Book(()) == Book(()))
        self.assertTrue(Book(((), (0,))) == Book(((), (0,))))
        self.assertFalse(Book(((), (0,))) != Book(((), (0,))))
        self.assertFalse(Book(((), (0,))) == Book(((), ())))
        self.assertTrue(Book(((), (0,))) != Book(((), ())))
        self.assertFalse(Book(((), (0,), (0, 1))) == Book(((), (0,), (1,))))
        for book in (Book(()), Book(((),)), FORK):
            for thing in [book.parents, list(book.parents), *odd_things()[:31]]:
                if not isinstance(thing, Book):
                    self.assertFalse(book == thing)
                    self.assertTrue(book != thing)
                    self.assertFalse(thing == book)

    def test_equal_just_if_the_parents_are(self):
        books = small_books()
        for one in books:
            for other in books:
                self.assertIs(one == other, one.parents == other.parents)


class Asking(unittest.TestCase):
    def agrees(self, book):
        many = len(book.parents)
        ups = walked_all(book)
        downs = [[] for _ in range(many)]
        for x in range(many):
            for p in sorted(ups[x] - {x}):
                downs[p].append(x)
            self.assertEqual(forebears(book, x), tuple(sorted(ups[x] - {x})))
            for p in range(many):
                if is_a(book, x, p) is not (p in ups[x]):
                    self.fail((book.parents, x, p))
        for p in range(many):
            self.assertEqual(heirs(book, p), tuple(downs[p]))

    def test_small_books(self):
        for book in small_books():
            self.agrees(book)

    def test_drawn_books(self):
        for book in drawn_books(30, 12) + drawn_books(5, 60, 6):
            self.agrees(book)

    def test_great_books(self):
        for book in (row_book(400), flat_book(400), grid_book(20, 20), drawn_book(5, 300, 6), drawn_book(6, 300, 2, 9)):
            self.agrees(book)

    def test_no_kind(self):
        for book in (Book(()), Book(((),)), FORK, flat_book(400)):
            many = len(book.parents)
            for thing in odd_things() + odd_numbers() + odd_tuples() + [many, -many, (0,)]:
                for call in (
                    lambda: forebears(book, thing), lambda: heirs(book, thing), lambda: is_a(book, thing, thing),
                    lambda: is_a(book, thing, 0), lambda: is_a(book, 0, thing),
                ):
                    with self.assertRaises(NoKind):
                        call()


class Changes(unittest.TestCase):
    def test_loaded(self):
        for book in small_books():
            many = len(book.parents)
            for row in ((), (0,), tuple(range(many))):
                if row and not many:
                    continue
                more = loaded(book, row)
                self.assertEqual(more, Book(book.parents + (row,)))
                self.assertEqual(forebears(more, many), tuple(sorted(set().union(*[walked(book, p) for p in row]))))

    def test_loaded_refuses(self):
        for row in ((4,), (5,), (-1,), (0, 0), (1, 0), (True,), (False,), [], [0], (0, 1, 2, 3, 4), "", "0", None, 0,
                    (10 ** 79,)):
            with self.assertRaises(BadKind):
                loaded(FORK, row)
        for thing in odd_things() + odd_tuples() + odd_numbers():
            for book in (Book(()), FORK, flat_book(400)):
                with self.assertRaises(BadKind):
                    loaded(book, thing)

    def test_loaded_with_six_parents_and_no_more(self):
        book = flat_book(9)
        self.assertEqual(loaded(book, (0, 1, 2, 6, 7, 8)).parents[9], (0, 1, 2, 6, 7, 8))
        with self.assertRaises(BadKind):
            loaded(book, (0, 1, 2, 5, 6, 7, 8))

    def test_only_a_construction_bounds_the_number_of_kinds(self):
        book = loaded(loaded(flat_book(400), (399,)), (400,))
        self.assertEqual(len(book.parents), 402)
        self.assertEqual(forebears(book, 401), (399, 400))
        self.assertEqual(heirs(book, 399), (400, 401))
        self.assertEqual(beginning(book, 400), flat_book(400))
        self.assertEqual(plain(book), book)
        self.assertEqual(reordered(book, tuple(range(402))), book)
        both = beside(row_book(400), row_book(400))
        self.assertEqual(len(both.parents), 800)
        self.assertEqual(forebears(both, 799), tuple(range(400, 799)))
        with self.assertRaises(NoKind):
            is_a(both, 800, 0)

    def test_beginning(self):
        for book in small_books() + [row_book(400)]:
            for many in range(len(book.parents) + 1):
                self.assertEqual(beginning(book, many), Book(book.parents[:many]))

    def test_beginning_refuses(self):
        for book in (Book(()), FORK, row_book(400)):
            for thing in odd_things() + odd_tuples() + odd_numbers() + [len(book.parents) + 1]:
                with self.assertRaises(NoNumber):
                    beginning(book, thing)

    def test_plain(self):
        for book in [*small_books(), *all_books(5)[::7], *drawn_books(30, 14, 6)]:
            ups = walked_all(book)
            rows = []
            for x in range(len(ups)):
                above = ups[x] - {x}
                rows.append(tuple(f for f in sorted(above) if not any(f in ups[h] and f != h for h in above)))
            got = plain(book)
            self.assertEqual(got, Book(tuple(rows)))
            self.assertEqual(relation(got), relation(book))

    def test_reordered_and_back(self):
        for book in small_books():
            many = len(book.parents)
            for order in permutations(range(many)):
                right = all(order.index(p) < order.index(k) for k in range(many) for p in book.parents[k])
                if not right:
                    with self.assertRaises(NoOrder):
                        reordered(book, order)
                    continue
                other = reordered(book, order)
                for k in range(many):
                    self.assertEqual({order[p] for p in other.parents[k]}, set(book.parents[order[k]]))
                    self.assertEqual(other.parents[k], tuple(sorted(other.parents[k])))
                back = tuple(order.index(k) for k in range(many))
                self.assertEqual(reordered(other, back), book)

    def test_reordered_great(self):
        book = drawn_book(3, 200, 2)
        draw = Random(4)
        order = []
        left = set(range(200))
        while left:
            ready = [k for k in sorted(left) if not left & set(book.parents[k])]
            kind = draw.choice(ready)
            left.remove(kind)
            order.append(kind)
        other = reordered(book, tuple(order))
        for x in range(0, 200, 3):
            for p in range(200):
                self.assertEqual(is_a(other, x, p), is_a(book, order[x], order[p]))

    def test_reordered_refuses(self):
        for order in ((0, 1, 2), (0, 1, 2, 3, 4), (0, 0, 1, 2), (0, 1, 2, 2), (2, 0, 1, 3), (3, 0, 1, 2), (0, 2, 1, 3),
                      [0, 1, 2, 3], "0123", (), (False, True, 2, 3), (0, 1, 3, "2"), (0, 1, 2, -1), (0, 1, 2, 4)):
            with self.assertRaises(NoOrder):
                reordered(FORK, order)
        for book in (Book(((),)), FORK, row_book(400)):
            for thing in odd_things() + odd_tuples() + odd_numbers():
                with self.assertRaises(NoOrder):
                    reordered(book, thing)
        for thing in odd_things() + [(0,), ((),)]:
            with self.assertRaises(NoOrder):
                reordered(Book(()), thing)
            for order in ((thing, 1, 2, 3), (0, 1, 2, thing)):
                with self.assertRaises(NoOrder):
                    reordered(Book(((),) * 4), order)

    def test_beside(self):
        books = [book for book in small_books() if len(book.parents) < 4]
        for one in books:
            for other in books:
                many = len(one.parents)
                both = beside(one, other)
                shifted = tuple(tuple(p + many for p in row) for row in other.parents)
                self.assertEqual(both, Book(one.parents + shifted))
        self.assertEqual(beside(Book(()), FORK), FORK)
        self.assertEqual(beside(FORK, Book(())), FORK)


class NothingChanges(unittest.TestCase):
    def test_arguments_stay(self):
        book = Book(((), (), (0, 1), (0, 2)))
        twin = copy.deepcopy(book)
        is_a(book, 2, 1), forebears(book, 3), heirs(book, 0), loaded(book, (1, 3)), beginning(book, 2), plain(book)
        reordered(book, (1, 0, 2, 3)), beside(book, book)
        self.assertEqual(vars(book), vars(twin))
        rows = [0, 1]
        for call in (lambda: loaded(book, rows), lambda: reordered(book, rows), lambda: Book(rows)):
            with self.assertRaises(KindError):
                call()
            self.assertEqual(rows, [0, 1])
            self.assertEqual(vars(book), vars(twin))


if __name__ == "__main__":
    unittest.main()

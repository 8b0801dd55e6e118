import copy
import unittest
from itertools import permutations

from latekinds.books import Book, loaded, reordered
from latekinds.errors import NoOrder, NotTree, TooMany
from latekinds.loader import led
from latekinds.orders import best_order, tree_placed, worst_order
from latekinds.rule import placed
from latekinds.widths import width
from tests.helpers import (
    all_books, drawn_book, drawn_books, drawn_tree, flat_book, grid_book, row_book, rows_book, small_books,
)

FORK = Book(((), (), (0, 1), (0,)))


def slow_tree_placed(book):
    slots = []
    for kind, parents in enumerate(book.parents):
        slot = slots[parents[0]] if parents else None
        behind = [slots[other] for other in range(parents[0] + 1, kind)] if parents else []
        slots.append(len(set(slots)) if slot is None or slot in behind else slot)
    return tuple(slots)


def slow_orders(book):
    """All orders, ascending, each with how many slots the told rule gives, by going through all permutations."""
    counted = []
    for order in permutations(range(len(book.parents))):
        try:
            counted.append((len(set(placed(reordered(book, order)))), order))
        except NoOrder:
            pass
    return counted


class Trees(unittest.TestCase):
    def test_drawn_trees(self):
        for seed in range(60):
            book = drawn_tree(seed, seed + 1, seed % 4)
            slots = tree_placed(book)
            self.assertEqual(slots, slow_tree_placed(book))
            self.assertEqual(len(set(slots)), width(book))
            self.assertEqual(led(lambda now, given: slots[len(given)], book), (slots, None))

    def test_small_trees(self):
        for book in [book for many in range(6) for book in all_books(many)]:
            more = [kind for kind, parents in enumerate(book.parents) if len(parents) > 1]
            if more:
                with self.assertRaises(NotTree) as caught:
                    tree_placed(book)
                self.assertEqual(caught.exception.at, more[0])
            else:
                self.assertEqual(tree_placed(book), slow_tree_placed(book))
                self.assertEqual(len(set(tree_placed(book))), width(book))

    def test_known(self):
        self.assertEqual(tree_placed(Book(())), ())
        self.assertEqual(tree_placed(flat_book(3)), (0, 1, 2))
        self.assertEqual(tree_placed(Book(((), (0,), (0,), (2,), (0,), (1,)))), (0, 0, 1, 1, 2, 0))
        self.assertEqual(tree_placed(row_book(400)), (0,) * 400)
        self.assertEqual(tree_placed(rows_book(2, 3)), (0, 0, 1, 1, 1))
        with self.assertRaises(NotTree) as caught:
            tree_placed(FORK)
        self.assertEqual(caught.exception.at, 2)


class Orders(unittest.TestCase):
    def held_against_all(self, book):
        counted = slow_orders(book)
        least = min(many for many, _ in counted)
        greatest = max(many for many, _ in counted)
        best = best_order(book)
        worst = worst_order(book)
        self.assertEqual(best, (least, [order for many, order in counted if many == least][0]))
        self.assertEqual(worst, (greatest, [order for many, order in counted if many == greatest][0]))
        self.assertEqual([type(part) for part in best + worst], [int, tuple, int, tuple])
        return least < greatest

    def test_small_books(self):
        unlike = [self.held_against_all(book) for book in small_books()]
        self.assertIn(True, unlike)

    def test_middle_books(self):
        books = drawn_books(12, 5, 2) + drawn_books(12, 6, 2) + drawn_books(4, 7, 2) + [row_book(7), grid_book(2, 3)]
        unlike = [self.held_against_all(book) for book in books]
        self.assertIn(True, unlike)

    def test_seven_kinds_and_no_more(self):
        self.assertEqual(best_order(flat_book(7)), (7, tuple(range(7))))
        self.assertEqual(worst_order(flat_book(7)), (7, tuple(range(7))))
        for book in (flat_book(8), row_book(8), drawn_book(1, 8), row_book(400), loaded(row_book(400), ())):
            for action in (best_order, worst_order):
                with self.assertRaises(TooMany) as caught:
                    action(book)
                self.assertEqual(caught.exception.most, 7)

    def test_no_kinds(self):
        self.assertEqual(best_order(Book(())), (0, ()))
        self.assertEqual(worst_order(Book(())), (0, ()))

    def test_arguments_stay(self):
        book = drawn_tree(4, 6)
        twin = copy.deepcopy(book)
        tree_placed(book), best_order(book), worst_order(book)
        self.assertEqual(vars(book), vars(twin))


if __name__ == "__main__":
    unittest.main()

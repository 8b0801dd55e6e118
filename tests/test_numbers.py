import copy
import unittest
from itertools import combinations, permutations, product
from random import Random

from latekinds.books import Book, beside, loaded
from latekinds.errors import TooMany
from latekinds.numbers import forces, is_forces, is_two_orders, two_orders
from tests.helpers import (
    all_books, deep, drawn_book, drawn_books, drawn_tree, flat_book, grid_book, odd_numbers, odd_things, odd_tuples,
    row_book, rows_book, small_books, walked_all,
)

FORK = Book(((), (), (0, 1), (0,)))
THREE = Book(((), (), (), (0, 1), (0, 2), (1, 2)))


def slow_two_orders(book, thing):
    """Whether it is two orders by the words of 7.1, pair by pair."""
    if type(thing) is not tuple or len(thing) != 2:
        return False
    ups = walked_all(book)
    for row in thing:
        if type(row) is not tuple or any(type(kind) is not int for kind in row):
            return False
        if sorted(row) != list(range(len(ups))):
            return False
    one, other = thing
    for x, up in enumerate(ups):
        for p in range(len(ups)):
            behind = one.index(x) > one.index(p) and other.index(x) > other.index(p)
            if (p in up) != (x == p or behind):
                return False
    return True


def slow_sides(book):
    """The set of all pairs (a, b) side by side."""
    ups = walked_all(book)
    kinds = range(len(ups))
    return {(a, b) for a in kinds for b in kinds if a not in ups[b] and b not in ups[a]}


def slow_forced(sides, pair, other):
    """Whether the pair forces the other one, both being side by side."""
    (a, b), (c, d) = pair, other
    if a == c and b != d and (b, d) not in sides:
        return True
    return b == d and a != c and (a, c) not in sides


def slow_forces(book, thing):
    """Whether it is a chain of forces by the words of 7.1, pair by pair."""
    if type(thing) is not list or not thing:
        return False
    sides = slow_sides(book)
    for pair in thing:
        if type(pair) is not tuple or any(type(kind) is not int for kind in pair) or pair not in sides:
            return False
    if thing[-1] != thing[0][::-1]:
        return False
    return all(slow_forced(sides, pair, other) for pair, other in zip(thing, thing[1:]))


def slow_has_two_orders(book):
    """Whether some two orders are there, by going through all pairs of permutations."""
    many = len(book.parents)
    ups = walked_all(book)
    rows = [
        row for row in permutations(range(many)) if all(up <= set(row[:row.index(k) + 1]) for k, up in enumerate(ups))
    ]
    return any(slow_two_orders(book, (one, other)) for one in rows for other in rows)


def crown(many):
    """Kinds in two rows, each of the second row being all of the first one but one: no two orders from three on."""
    return Book(((),) * many + tuple(tuple(k for k in range(many) if k != at)[:6] for at in range(many)))


def drawn_from_orders(seed, many):
    """A book that has two orders, as it is drawn by them."""
    draw = Random(seed)
    places = list(range(many))
    draw.shuffle(places)
    rows = []
    for x in range(many):
        ahead = [p for p in range(x) if places[p] < places[x]]
        nearest = [p for p in ahead if not any(p < q and places[p] < places[q] for q in ahead)]
        if len(nearest) > 6:
            return None
        rows.append(tuple(nearest))
    return Book(tuple(rows))


def middle_books():
    books = drawn_books(60, 7, 2) + drawn_books(40, 10, 3) + drawn_books(12, 16, 2) + drawn_books(8, 16, 6)
    return books + [crown(3), crown(4), crown(6), grid_book(3, 4), rows_book(3, 3, 3), drawn_tree(1, 15), THREE, FORK]


def great_books():
    books = [drawn_book(seed, 40, most, reach) for seed in range(6) for most in (1, 2, 3, 6) for reach in (4, 10, 400)]
    books += [drawn_book(seed, 30 + seed, 2) for seed in range(10)] + [flat_book(40), row_book(40), grid_book(5, 8)]
    books += [drawn_tree(seed, 40, seed) for seed in range(6)] + [beside(crown(3), row_book(34)), crown(7)]
    return books + [book for book in [drawn_from_orders(seed, 40) for seed in range(40)] if book is not None]


class JustOneOfBoth(unittest.TestCase):
    def held(self, book):
        orders = two_orders(book)
        chain = forces(book)
        self.assertIs(orders is None, chain is not None)
        if orders is not None:
            self.assertTrue(slow_two_orders(book, orders), (book.parents, orders))
        else:
            self.assertTrue(slow_forces(book, chain), (book.parents, chain))
        self.assertIs(is_two_orders(book, orders), orders is not None)
        self.assertIs(is_forces(book, chain), chain is not None)
        return orders is not None

    def test_small_books(self):
        for many in range(6):
            for book in all_books(many):
                self.assertTrue(self.held(book))

    def test_middle_and_great_books(self):
        found = [self.held(book) for book in middle_books() + great_books()]
        self.assertGreater(found.count(True), 40)
        self.assertGreater(found.count(False), 40)

    def test_against_all_orders(self):
        for book in [THREE, crown(3), Book(((), (), (), (0, 1), (0, 2), (1,))), FORK] + drawn_books(9, 6, 3):
            self.assertIs(two_orders(book) is not None, slow_has_two_orders(book))

    def test_drawn_from_orders(self):
        books = [drawn_from_orders(seed, many) for seed in range(30) for many in (5, 9, 14, 25)]
        books = [book for book in books if book is not None]
        self.assertGreater(len(books), 40)
        for book in books:
            self.assertTrue(self.held(book))

    def test_known(self):
        self.assertEqual(two_orders(Book(())), ((), ()))
        self.assertIsNone(forces(Book(())))
        self.assertEqual(two_orders(Book(((),))), ((0,), (0,)))
        self.assertEqual(two_orders(row_book(4)), ((0, 1, 2, 3),) * 2)
        self.assertIn(two_orders(flat_book(2)), (((0, 1), (1, 0)), ((1, 0), (0, 1))))
        self.assertIsNone(two_orders(THREE))
        self.assertIsNone(forces(FORK))
        for many in (3, 4, 5, 6, 7):
            self.assertIsNone(two_orders(crown(many)))

    def test_kinds_of_results(self):
        orders = two_orders(FORK)
        self.assertEqual([type(thing) for thing in (orders,) + orders], [tuple] * 3)
        chain = forces(THREE)
        self.assertIs(type(chain), list)
        self.assertTrue(all(type(pair) is tuple for pair in chain))

    def test_new_lists(self):
        chain = forces(THREE)
        kept = list(chain)
        chain.clear()
        self.assertEqual(forces(THREE), kept)
        self.assertEqual(two_orders(FORK), two_orders(Book(FORK.parents)))

    def test_forty_kinds_and_no_more(self):
        for book in (loaded(row_book(40), ()), flat_book(41), row_book(400), beside(crown(3), flat_book(35))):
            for action in (two_orders, forces):
                with self.assertRaises(TooMany) as caught:
                    action(book)
                self.assertEqual(caught.exception.most, 40)
        many = tuple(range(400))
        self.assertIs(is_two_orders(row_book(400), (many, many)), True)
        self.assertIs(is_two_orders(flat_book(400), (many, many[::-1])), True)
        self.assertIs(is_two_orders(flat_book(400), (many, many)), False)
        both = beside(crown(3), flat_book(50))
        self.assertIs(is_forces(both, forces(crown(3))), True)
        self.assertIs(is_forces(both, forces(crown(3))[:-1]), False)
        self.assertIs(is_forces(row_book(400), []), False)


class JudgingOrders(unittest.TestCase):
    def judged(self, book, thing):
        right = slow_two_orders(book, thing)
        self.assertIs(is_two_orders(book, thing), right, (book.parents, repr(thing)[:200]))
        return right

    def test_all_pairs_of_orders(self):
        for many in range(4):
            for book in all_books(many):
                rows = list(permutations(range(many)))
                self.assertTrue([1 for one in rows for other in rows if self.judged(book, (one, other))])
        rows = list(permutations(range(4)))
        self.assertEqual(len([1 for one in rows for other in rows if self.judged(FORK, (one, other))]), 2)

    def test_one_thing_moved(self):
        for book in middle_books()[::3] + great_books()[::9]:
            orders = two_orders(book)
            if orders is None:
                continue
            one, other = orders
            for at in range(len(one) - 1):
                # Two neighbours that change places are told to be what they are not, whatever they are.
                moved = one[:at] + (one[at + 1], one[at]) + one[at + 2:]
                self.assertFalse(self.judged(book, (moved, other)))
                self.assertFalse(self.judged(book, (other, moved)))
            for thing in ((one, one), (one[::-1], other), (one, other, one), (one,), one, (one[1:], other[1:]),
                          (one + one[:1], other), (one, other[:-1]), (list(one), other), (one, list(other)),
                          [one, other], (other, one), (one[:-1] + (len(one),), other), (one[:-1] + (-1,), other)):
                self.judged(book, thing)

    def test_other_things(self):
        one, other = (0, 3, 1, 2), (1, 0, 2, 3)
        self.assertIs(is_two_orders(FORK, (one, other)), True)
        for thing in odd_things() + odd_tuples() + odd_numbers():
            for pair in (thing, (one, thing), (thing, other), (one, other, thing), ((thing, 3, 1, 2), other),
                         (one, (1, 0, 2, thing))):
                self.assertIs(is_two_orders(FORK, pair), False, repr(thing)[:200])
        for pair in ((one, (True, 0, 2, 3)), ((False, 3, 1, 2), other), [one, other], (list(one), other),
                     (one, (1, 0, 2)), (one, (1, 0, 2, 3, 3)), (one, (1, 0, 2, 2)), ("0312", "1023"), None):
            self.assertIs(is_two_orders(FORK, pair), False)
        self.assertIs(is_two_orders(Book(()), ((), ())), True)
        for thing in ((), ((),), ((), (), ()), [(), ()], ((), []), None, "", ("", "")):
            self.assertIs(is_two_orders(Book(()), thing), False)


class JudgingForces(unittest.TestCase):
    def judged(self, book, thing):
        right = slow_forces(book, thing)
        self.assertIs(is_forces(book, thing), right, (book.parents, repr(thing)[:200]))
        return right

    def chains(self):
        for book in middle_books()[::2] + great_books()[::5]:
            chain = forces(book)
            if chain is not None:
                yield book, chain

    def test_each_force_against_the_words(self):
        # In crown(3) all pairs force one another along chains, so that each force stands in one.
        for book in (crown(3), Book(((), (), (0,), (1,), (0, 1), (2, 3)))):
            sides = sorted(slow_sides(book))
            for pair in sides:
                for other in sides:
                    for chain in ([pair, other], [pair, other, pair[::-1]], [pair, other, other[::-1], pair[::-1]]):
                        self.judged(book, chain)

    def test_all_short_lists_of_pairs(self):
        # Among them those that would be chains if their pairs needed not be side by side.
        kinds = range(3)
        pairs = [(a, b) for a in kinds for b in kinds]
        for book in (Book(((), (), (0, 1))), Book(((), (0,), ()))):
            for first in pairs:
                for between in product(pairs, repeat=3):
                    self.judged(book, [first, *between, first[::-1]])

    def test_walks_along_forces(self):
        draw = Random(3)
        for book, chain in self.chains():
            sides = slow_sides(book)
            at = chain[0]
            walk = [at]
            for _ in range(40):
                walk.append(draw.choice([other for other in sorted(sides) if slow_forced(sides, walk[-1], other)]))
                self.judged(book, list(walk))
                self.judged(book, walk[-6:])

    def test_one_thing_changed(self):
        wrong = 0
        for book, chain in self.chains():
            self.assertTrue(self.judged(book, chain))
            self.assertTrue(self.judged(book, chain[::-1]))
            turned = [pair[::-1] for pair in chain]
            self.assertTrue(self.judged(book, turned))
            for at, pair in enumerate(chain):
                rest = chain[at + 1:]
                for thing in (chain[:at] + rest, chain[:at] + [pair[::-1]] + rest, chain[:at] + [pair, pair] + rest,
                              chain[:at] + [list(pair)] + rest, chain[:at] + [pair + pair[:1]] + rest,
                              chain[:at] + [pair[:1]] + rest, chain[:at] + [None] + rest, chain[at:], chain[:at],
                              chain[:at] + [(pair[0], pair[0])] + rest, chain[:at] + [(pair[0], -1)] + rest,
                              chain[:at] + [(pair[0], len(book.parents))] + rest, chain[at:] + chain[:at],
                              chain[:at] + [(pair[0], 10 ** 79)] + rest, chain[:at] + rest + [pair]):
                    wrong += not self.judged(book, thing)
            for thing in (tuple(chain), [], [chain], [chain[0]], [chain[0], chain[-1]], chain[:1] * 2, chain + chain):
                self.assertFalse(self.judged(book, thing))
        self.assertGreater(wrong, 500)

    def test_flags_in_the_place_of_kinds(self):
        chain = forces(THREE)
        for flag in (False, True):
            for at, (a, b) in enumerate(chain):
                if flag in (a, b):
                    pair = (flag, b) if flag == a else (a, flag)
                    self.assertIs(is_forces(THREE, chain[:at] + [pair] + chain[at + 1:]), False)

    def test_other_things(self):
        chain = forces(THREE)
        for thing in odd_things() + odd_tuples() + odd_numbers():
            for other in (thing, [thing], [thing, thing], chain + [thing], [thing] + chain,
                          [chain[0], thing] + chain[2:], [(0, thing)] + chain[1:],
                          [chain[0], (thing, thing)] + chain[2:]):
                self.assertIs(is_forces(THREE, other), False, repr(thing)[:200])
        for wrap in (lambda x: [x], lambda x: (x,), lambda x: [(0, x)], lambda x: [(x, 1), (1, x)]):
            self.assertIs(is_forces(THREE, deep(18, wrap, 0)), False)
        for book in small_books()[::5]:
            for pair in combinations(range(4), 2):
                self.judged(book, [pair, pair[::-1]])


class NothingChanges(unittest.TestCase):
    def test_arguments_stay(self):
        for book in (FORK, THREE, crown(4)):
            twin = copy.deepcopy(book)
            orders = two_orders(book)
            chain = forces(book)
            kept = copy.deepcopy((orders, chain))
            is_two_orders(book, orders), is_forces(book, chain)
            self.assertEqual((orders, chain), kept)
            self.assertEqual(vars(book), vars(twin))


if __name__ == "__main__":
    unittest.main()

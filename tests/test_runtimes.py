import unittest
from random import Random

from latekinds.books import Book
from latekinds.errors import BadKind, NoKind, NothingDone, TooMany
from latekinds.rule import groups, told_scheme
from latekinds.runtimes import Runtime
from tests.helpers import (
    drawn_book, drawn_books, flat_book, grid_book, kinds_that_are_none, odd_numbers, odd_things, odd_tuples, row_book,
    small_books, walked_all,
)


def runtime_of(book):
    runtime = Runtime()
    for kind, parents in enumerate(book.parents):
        assert runtime.load(parents) == kind
    return runtime


def bad_parents(kind):
    """Things that are no parents of the kind with this number, which is 7 or more."""
    things = [thing for thing in odd_things() + odd_tuples() + odd_numbers() if thing != ()]
    things += [(kind,), (kind + 1,), (-1,), (1, 0), (0, 0), (0, 2, 1), (True,), (0, True), (False, 1), [0], "0", 0]
    return things + [tuple(range(7)), (0, 1, 2, 3, 4, kind), (None,), ((0,),), (10 ** 79,), {0: 0}, Book(())]


class Case(unittest.TestCase):
    def stands_as(self, runtime, book):
        """All that the runtime tells is what is so of the book."""
        many = len(book.parents)
        self.assertEqual(runtime.many(), many)
        self.assertTrue(runtime.book() == book)
        self.assertEqual(runtime.groups(), groups(book))
        scheme = told_scheme(book)
        for x, up in enumerate(walked_all(book)):
            self.assertEqual(runtime.given(x), scheme[x])
            self.assertEqual([p for p in range(many) if runtime.ask(x, p)], sorted(up))
            self.assertIs(runtime.ask(x, x), True)
        for thing in (many, -1, None, True):
            self.assertRaises(NoKind, runtime.given, thing)
            self.assertRaises(NoKind, runtime.ask, thing, 0)
            self.assertRaises(NoKind, runtime.ask, 0, thing)


class Loading(Case):
    def test_each_beginning(self):
        for book in small_books()[::5] + drawn_books(15, 9) + [grid_book(3, 4), flat_book(6), row_book(6)]:
            runtime = Runtime()
            for kind, parents in enumerate(book.parents):
                self.stands_as(runtime, Book(book.parents[:kind]))
                self.assertEqual(runtime.load(parents), kind)
            self.stands_as(runtime, book)

    def test_what_was_given_never_changes(self):
        book = drawn_book(5, 60, 3)
        runtime = Runtime()
        given = []
        for kind, parents in enumerate(book.parents):
            runtime.load(parents)
            given.append(runtime.given(kind))
            self.assertEqual([runtime.given(elder) for elder in range(kind + 1)], given)
        self.assertEqual(tuple(given), told_scheme(book))

    def test_nothing_yet(self):
        runtime = Runtime()
        self.stands_as(runtime, Book(()))
        self.assertEqual(runtime.groups(), ())
        self.assertEqual([type(Runtime().many()), type(Runtime().groups())], [int, tuple])

    def test_great_books(self):
        for book in (drawn_book(3, 400, 3, 60), grid_book(20, 20), flat_book(400), row_book(400)):
            runtime = runtime_of(book)
            scheme = told_scheme(book)
            self.assertEqual([runtime.given(x) for x in range(400)], list(scheme))
            self.assertEqual(runtime.groups(), groups(book))
            ups = walked_all(book)
            for x in range(0, 400, 13):
                self.assertEqual([p for p in range(400) if runtime.ask(x, p)], sorted(ups[x]))
            with self.assertRaises(TooMany) as caught:
                runtime.load(())
            self.assertEqual(caught.exception.most, 400)
            for thing in bad_parents(400):
                self.assertRaises(BadKind, runtime.load, thing)
            self.assertTrue(runtime.book() == book)
            runtime.back()
            self.assertEqual(runtime.load((0, 398)), 399)
            self.assertRaises(TooMany, runtime.load, (399,))


class Wrong(Case):
    def test_refusals_change_nothing(self):
        book = drawn_book(1, 8)
        runtime = runtime_of(book)
        for thing in bad_parents(8):
            with self.assertRaises(BadKind):
                runtime.load(thing)
        for thing in kinds_that_are_none(8):
            for action in (lambda: runtime.given(thing), lambda: runtime.ask(thing, 0), lambda: runtime.ask(0, thing),
                           lambda: runtime.ask(thing, thing)):
                with self.assertRaises(NoKind):
                    action()
        self.stands_as(runtime, book)
        self.assertEqual(runtime.load((0, 1, 2, 3, 4, 5)), 8)
        runtime.back()
        self.stands_as(runtime, book)

    def test_nothing_done(self):
        runtime = Runtime()
        self.assertRaises(NothingDone, runtime.back)
        runtime.load(())
        self.assertIsNone(runtime.back())
        self.assertRaises(NothingDone, runtime.back)
        self.stands_as(runtime, Book(()))


class Back(Case):
    def test_back_behind_back(self):
        for book in drawn_books(8, 9) + [grid_book(3, 3)]:
            runtime = runtime_of(book)
            for many in reversed(range(len(book.parents))):
                self.assertIsNone(runtime.back())
                self.stands_as(runtime, Book(book.parents[:many]))
            self.assertRaises(NothingDone, runtime.back)

    def test_back_and_on_another_way(self):
        draw = Random(1)
        runtime = Runtime()
        rows = []
        for _ in range(300):
            if rows and draw.randrange(5) < 2:
                rows.pop()
                runtime.back()
            else:
                parents = tuple(sorted(draw.sample(range(len(rows)), min(len(rows), draw.randrange(4)))))
                self.assertEqual(runtime.load(parents), len(rows))
                rows.append(parents)
        self.stands_as(runtime, Book(tuple(rows)))


class Copies(Case):
    def test_go_on_apart(self):
        book = drawn_book(2, 8)
        runtime = runtime_of(book)
        twin = runtime.copy()
        self.assertIsInstance(twin, Runtime)
        self.stands_as(twin, book)
        twin.load((0,))
        runtime.load((1, 2))
        runtime.load(())
        self.stands_as(twin, Book(book.parents + ((0,),)))
        self.stands_as(runtime, Book(book.parents + ((1, 2), ())))
        for many in reversed(range(9)):
            twin.back()
            self.stands_as(twin, Book(book.parents[:many]))
        self.assertRaises(NothingDone, twin.back)
        self.stands_as(runtime, Book(book.parents + ((1, 2), ())))
        other = runtime.copy()
        for _ in range(10):
            runtime.back()
        self.assertRaises(NothingDone, runtime.back)
        self.stands_as(other, Book(book.parents + ((1, 2), ())))
        other.back()
        self.stands_as(other, Book(book.parents + ((1, 2),)))

    def test_equal_to_nothing_else(self):
        self.assertFalse(Runtime() == Book(()))
        self.assertFalse(Book(()) == Runtime())
        self.assertFalse(Runtime() == ())


class Oops(Exception):
    pass


class Trying(Case):
    def test_what_the_action_returned(self):
        book = drawn_book(3, 7)
        runtime = runtime_of(book)
        for thing in (None, 0, False, "a", [1], (), Book(())):
            self.assertIs(runtime.trying(lambda one: thing), thing)
        self.assertEqual(runtime.trying(lambda one: (one.load((0,)), one.load((7,)), one.ask(8, 0))), (7, 8, True))
        self.assertIs(runtime.trying(lambda one: one), runtime)
        self.stands_as(runtime, book)

    def test_all_is_put_back(self):
        book = drawn_book(4, 7)
        runtime = runtime_of(book)

        def shorter(one):
            for _ in range(5):
                one.back()
            one.load((0, 1))
            self.stands_as(one, Book(book.parents[:2] + ((0, 1),)))
            return one.many()

        self.assertEqual(runtime.trying(shorter), 3)
        self.stands_as(runtime, book)
        for many in reversed(range(7)):
            runtime.back()
            self.stands_as(runtime, Book(book.parents[:many]))
        self.assertRaises(NothingDone, runtime.back)

    def test_errors_go_on(self):
        book = drawn_book(5, 6)
        runtime = runtime_of(book)

        def fails(error):
            def action(one):
                one.back()
                one.load(())
                one.load((5,))
                raise error
            return action

        for error in (Oops(), NoKind(), KeyError("a"), ValueError(), BaseException(), StopIteration(), RecursionError()):
            with self.assertRaises(type(error)) as caught:
                runtime.trying(fails(error))
            self.assertIs(caught.exception, error)
            self.stands_as(runtime, book)
        self.assertRaises(BadKind, runtime.trying, lambda one: one.load((9,)))
        self.assertRaises(NothingDone, runtime.trying, lambda one: [one.back() for _ in range(7)])
        self.stands_as(runtime, book)

    def test_within_a_trying(self):
        book = drawn_book(6, 6)
        runtime = runtime_of(book)

        def inner(one):
            one.back()
            one.back()
            one.load(())
            return one.book()

        def inner_that_fails(one):
            one.back()
            raise Oops()

        def outer(one):
            one.load((2, 3))
            told = one.trying(inner)
            self.assertTrue(told == Book(book.parents[:5] + ((),)))
            self.stands_as(one, Book(book.parents + ((2, 3),)))
            self.assertRaises(Oops, one.trying, inner_that_fails)
            self.stands_as(one, Book(book.parents + ((2, 3),)))
            one.back()
            one.back()
            return one.trying(lambda other: other.trying(inner))

        self.assertTrue(runtime.trying(outer) == Book(book.parents[:3] + ((),)))
        self.stands_as(runtime, book)

    def test_copies_made_within_stay_apart(self):
        book = drawn_book(7, 5)
        runtime = runtime_of(book)

        def action(one):
            one.load((1,))
            return one.copy()

        twin = runtime.trying(action)
        self.stands_as(twin, Book(book.parents + ((1,),)))
        self.stands_as(runtime, book)
        twin.back()
        twin.back()
        self.stands_as(twin, Book(book.parents[:4]))
        self.stands_as(runtime, book)


if __name__ == "__main__":
    unittest.main()

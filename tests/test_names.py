import copy
import unittest
from itertools import product

from latekinds.books import Book
from latekinds.errors import KindError, NoKind, NoName, NoNumber, NotTree
from latekinds.names import broken, is_broken, tree_names, tree_says, web_names, web_says
from tests.helpers import (
    all_books, drawn_book, drawn_books, drawn_tree, flat_book, grid_book, no_names, odd_numbers, odd_things, odd_tuples,
    row_book, small_books, walked_all,
)

FORK = Book(((), (), (0, 1), (0,)))


def names_of_bits(most):
    return ["".join(signs) for size in range(most + 1) for signs in product("01", repeat=size)]


def slow_tree_names(book):
    """The names of a tree, each child being looked up among its parent's children."""
    names = [""]
    for kind in range(1, len(book.parents)):
        parent = book.parents[kind][0]
        children = [other for other in range(1, len(book.parents)) if book.parents[other] == (parent,)]
        names.append(names[parent] + "1" * children.index(kind) + "0")
    return tuple(names[:len(book.parents)])


class Webs(unittest.TestCase):
    def test_against_walking(self):
        for book in small_books() + drawn_books(15, 12) + [grid_book(4, 4), flat_book(9), row_book(9)]:
            ups = walked_all(book)
            names = web_names(book)
            self.assertIs(type(names), tuple)
            self.assertEqual(len(names), len(ups))
            for x, name in enumerate(names):
                self.assertEqual(name, "".join("1" if i in ups[x] else "0" for i in range(x)))
                for p, other in enumerate(names):
                    self.assertIs(web_says(name, other), p in ups[x])

    def test_known(self):
        self.assertEqual(web_names(Book(())), ())
        self.assertEqual(web_names(flat_book(3)), ("", "0", "00"))
        self.assertEqual(web_names(row_book(4)), ("", "1", "11", "111"))
        self.assertEqual(web_names(row_book(400))[399], "1" * 399)

    def test_all_short_names(self):
        for name, other in product(names_of_bits(4), repeat=2):
            if len(name) == len(other):
                right = name == other
            else:
                right = len(name) > len(other) and name[len(other)] == "1"
            self.assertIs(web_says(name, other), right)

    def test_long_names(self):
        self.assertIs(web_says("0" * 19999 + "1", "1" * 19999), True)
        self.assertIs(web_says("1" * 19999 + "0", "1" * 19999), False)
        self.assertIs(web_says("1" * 20000, "1" * 20000), True)
        self.assertIs(web_says("1" * 20000, "1" * 19999 + "0"), False)


class Trees(unittest.TestCase):
    def test_against_walking(self):
        for seed in range(40):
            book = drawn_tree(seed, seed + 1)
            ups = walked_all(book)
            names = tree_names(book)
            self.assertIs(type(names), tuple)
            self.assertEqual(names, slow_tree_names(book))
            for x, name in enumerate(names):
                for p, other in enumerate(names):
                    self.assertIs(tree_says(name, other), p in ups[x])

    def test_small_books(self):
        for book in [book for many in range(5) for book in all_books(many)]:
            bad = [kind for kind, parents in enumerate(book.parents) if kind and len(parents) != 1]
            if bad:
                with self.assertRaises(NotTree) as caught:
                    tree_names(book)
                self.assertEqual(caught.exception.at, bad[0])
            else:
                self.assertEqual(tree_names(book), slow_tree_names(book))

    def test_known(self):
        self.assertEqual(tree_names(Book(())), ())
        self.assertEqual(tree_names(Book(((),))), ("",))
        book = Book(((), (0,), (0,), (1,), (1,), (2,), (0,)))
        self.assertEqual(tree_names(book), ("", "0", "10", "00", "010", "100", "110"))
        self.assertEqual(tree_names(row_book(400))[399], "0" * 399)
        star = Book(((),) + ((0,),) * 399)
        self.assertEqual(tree_names(star)[399], "1" * 398 + "0")
        for book, at in ((FORK, 1), (Book(((), (0,), ())), 2), (Book(((), (0,), (0, 1), ())), 2)):
            with self.assertRaises(NotTree) as caught:
                tree_names(book)
            self.assertEqual(caught.exception.at, at)

    def test_all_short_names(self):
        for name, other in product(names_of_bits(4), repeat=2):
            self.assertIs(tree_says(name, other), name[:len(other)] == other)


class NoNames(unittest.TestCase):
    def test_other_things(self):
        for says in (web_says, tree_says):
            for thing in no_names():
                for name, other in ((thing, "01"), ("01", thing), (thing, thing), (thing, None), (thing, "")):
                    with self.assertRaises(NoName):
                        says(name, other)

    def test_names_that_look_odd(self):
        for says in (web_says, tree_says):
            for name in ("", "0", "1", "0" * 20000):
                self.assertIs(says(name, name), True)


def web_naming(book):
    return web_names(book)[-1]


def tree_naming(book):
    return tree_names(book)[-1]


def short_naming(book):
    """The number of the kind in bits: too short to tell who its forebears are."""
    number = len(book.parents) - 1
    return "".join("1" if number >> at & 1 else "0" for at in reversed(range(number.bit_length())))


def path_naming(book):
    """The last child of each kind has a short name, all others long ones."""
    kind = len(book.parents) - 1
    name = ""
    while kind:
        parent = book.parents[kind][0]
        elder = [other for other in range(1, kind) if book.parents[other] == (parent,)]
        name = "0" + "1" * len(elder) + name
        kind = parent
    return name


def wrong_at(many, answer):
    """A naming like tree_naming, but with one answer for the kind that is the so-many-th."""
    return lambda book: answer if len(book.parents) == many else tree_naming(book)


def teller_wrong_at(name, other, answer):
    return lambda one, two: answer if (one, two) == (name, other) else tree_says(one, two)


def many_pairs():
    pairs = [(naming, teller) for naming in (web_naming, tree_naming, short_naming, path_naming)
             for teller in (web_says, tree_says, lambda one, two: False, lambda one, two: True, lambda one, two: 1,
                            lambda one, two: None, lambda one, two: int(tree_says(one, two)),
                            lambda one, two: one.count("1") >= two.count("1"), lambda one, two: one <= two)]
    pairs += [(lambda book: "", tree_says), (lambda book: "01", web_says), (lambda book: "1" * 99, tree_says)]
    pairs += [(lambda book, thing=thing: thing, tree_says) for thing in no_names()[::7]]
    pairs += [(wrong_at(many, answer), tree_says) for many in (1, 2, 3, 5, 9) for answer in ("", "0", "2", None, 0)]
    pairs += [(tree_naming, teller_wrong_at(name, other, answer)) for answer in (True, False, None, 1, "")
              for name, other in (("", ""), ("0", ""), ("", "0"), ("0", "10"), ("00", "0"))]
    return pairs


def slow_broken(naming, teller, many, book):
    """Whether the book is as 6.2 says."""
    parents = book.parents
    if len(parents) != many or any(len(row) != 1 for row in parents[1:]):
        return False
    names = [naming(Book(parents[:end])) for end in range(1, many + 1)]
    if any(type(name) is not str or set(name) - {"0", "1"} or len(name) >= many - 1 for name in names):
        return True
    ups = walked_all(book)
    return any(teller(names[x], names[p]) is not (p in ups[x]) for x in range(many) for p in range(many))


def all_trees(many):
    rows = product(*[range(kind) for kind in range(1, many)])
    return [Book(((),) + tuple((parent,) for parent in row)) for row in rows]


def leaning_trees(many):
    """The trees each kind of which is a child of the last kind that was chosen to go on from, kind 0 at first."""
    trees = []
    for choices in range(2 ** (many - 2)):
        rows, base = [()], 0
        for kind in range(1, many):
            rows.append((base,))
            base = kind if choices >> (kind - 1) & 1 else base
        trees.append(Book(tuple(rows)))
    return trees


def right_but_for_one(many, target):
    """A naming by all names of many - 2 signs at most, and its teller: right for each leaning tree but one.

    The names that are left behind a kind are dealt to its heirs and to the others, just so many as each of both needs;
    there is one too few, and it lacks in the tree with the target's number.
    """
    first, *others = names_of_bits(many - 2)
    table = {((),): first}
    heirs_of = {first: set(others)}

    def deal(parents, base, left, aimed):
        kind = len(parents)
        parents += ((base,),)
        table[parents] = left[0] if left else first
        if kind == many - 1:
            return
        heir_aimed = aimed and target >> (kind - 1) & 1 == 1
        heirs = 2 ** (many - 1 - kind) - 1 - heir_aimed
        heirs_of[left[0]] = set(left[1:1 + heirs])
        deal(parents, kind, left[1:1 + heirs], heir_aimed)
        deal(parents, base, left[1 + heirs:], aimed and not heir_aimed)

    deal(((),), 0, others, True)
    return lambda book: table.get(book.parents, first), lambda x, p: x == p or x in heirs_of.get(p, ())


class Broken(unittest.TestCase):
    def held(self, naming, teller, many):
        book = broken(naming, teller, many)
        self.assertIs(type(book), Book)
        self.assertEqual(vars(book), vars(Book(book.parents)))
        self.assertTrue(slow_broken(naming, teller, many, book), book.parents)
        self.assertIs(is_broken(naming, teller, many, book), True)
        self.assertEqual(broken(naming, teller, many), book)

    def test_many_namings_and_tellers(self):
        for naming, teller in many_pairs():
            for many in range(2, 10):
                self.held(naming, teller, many)

    def test_namings_that_are_right_but_for_one_tree(self):
        for many in (2, 3, 4, 5, 6, 9):
            trees = leaning_trees(many)
            for target in range(0, len(trees), 9 if many == 9 else 1):
                naming, teller = right_but_for_one(many, target)
                for at in range(len(trees)) if many < 6 else (target,):
                    self.assertIs(slow_broken(naming, teller, many, trees[at]), at == target)
                self.held(naming, teller, many)

    def test_other_numbers_ahead_of_all_else(self):
        def naming(book):
            raise KindError("called")

        for thing in odd_things() + odd_tuples() + odd_numbers() + [0, 1, 10, True, False, "2", (2,)]:
            for action in (lambda: broken(naming, naming, thing), lambda: is_broken(naming, naming, thing, FORK),
                           lambda: is_broken(naming, naming, thing, None)):
                with self.assertRaises(NoNumber):
                    action()

    def test_errors_go_on(self):
        for error in (KeyError("x"), NoKind(), NoNumber(), NoName(), IndexError(), StopIteration()):
            def fails(*told):
                raise error

            def fails_later(book):
                if len(book.parents) == 2:
                    raise error
                return ""

            for naming, teller in ((fails, tree_says), (fails_later, tree_says), (lambda book: "", fails)):
                for action in (lambda: broken(naming, teller, 3), lambda: is_broken(naming, teller, 3, row_book(3))):
                    with self.assertRaises(type(error)) as caught:
                        action()
                    self.assertIs(caught.exception, error)

    def test_what_the_naming_is_called_with(self):
        calls = []

        def naming(book):
            calls.append(book)
            return ""

        def teller(name, other):
            calls.append((name, other))
            return True

        book = row_book(3)
        self.assertIs(is_broken(naming, teller, 3, book), True)
        self.assertEqual([one.parents for one in calls[:3]], [book.parents[:many] for many in (1, 2, 3)])
        self.assertTrue(all(one == ("", "") for one in calls[3:]))


class Judging(unittest.TestCase):
    def test_all_trees_against_the_words(self):
        for many in (2, 3, 4, 5):
            for naming, teller in many_pairs():
                for book in all_trees(many):
                    self.assertIs(is_broken(naming, teller, many, book), slow_broken(naming, teller, many, book))

    def test_books_that_are_no_such_trees(self):
        for book in small_books() + [drawn_book(3, 5), flat_book(9), row_book(400)]:
            for many in (2, 3, 4, 9):
                right = len(book.parents) == many and all(len(row) == 1 for row in book.parents[1:])
                self.assertIs(is_broken(lambda now: None, tree_says, many, book), right)

    def test_nothing_is_called_for_what_is_no_such_tree(self):
        def naming(book):
            raise KindError("called")

        for thing in odd_things() + odd_tuples() + odd_numbers() + [FORK, flat_book(2), row_book(5), FORK.parents]:
            self.assertIs(is_broken(naming, naming, 4, thing), False)

    def test_names_of_one_sign_less(self):
        book = row_book(5)
        names = tree_names(book)
        self.assertEqual(names[-1], "0000")
        self.assertIs(is_broken(tree_naming, tree_says, 5, book), True)
        book = Book(((), (0,), (1,), (1,), (0,)))
        self.assertEqual(tree_names(book), ("", "0", "00", "010", "10"))
        self.assertIs(is_broken(tree_naming, tree_says, 5, book), False)
        self.assertIs(is_broken(wrong_at(5, "1000"), tree_says, 5, book), True)
        self.assertIs(is_broken(wrong_at(5, "100"), tree_says, 5, book), False)
        self.assertIs(is_broken(wrong_at(5, "0"), tree_says, 5, book), True)

    def test_flags_and_things_like_flags(self):
        book = Book(((), (0,), (1,), (1,), (0,)))
        for teller, right in (
            (tree_says, False), (lambda one, two: int(tree_says(one, two)), True),
            (lambda one, two: tree_says(one, two) or None, True), (lambda one, two: tree_says(one, two) or 0, True),
            (lambda one, two: 1 if one == two else tree_says(one, two), True),
            (teller_wrong_at("", "", False), True), (teller_wrong_at("00", "00", False), True),
            (teller_wrong_at("10", "0", True), True), (teller_wrong_at("0", "10", True), True),
            (teller_wrong_at("010", "", False), True), (teller_wrong_at("1", "0", None), False),
        ):
            self.assertIs(is_broken(tree_naming, teller, 5, book), right)


class NothingChanges(unittest.TestCase):
    def test_arguments_stay(self):
        book = drawn_tree(6, 9)
        twin = copy.deepcopy(book)
        web_names(book), tree_names(book), is_broken(tree_naming, tree_says, 9, book)
        self.assertEqual(vars(book), vars(twin))


if __name__ == "__main__":
    unittest.main()

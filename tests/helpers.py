"""Books for the tests, things that are none of what is asked for, and slow plain ways to the same answers."""

from itertools import combinations, product
from random import Random

from latekinds.books import Book
from latekinds.errors import NoKind


def all_books(many):
    """All books of so many kinds (few)."""
    choices = []
    for kind in range(many):
        lots = []
        for size in range(min(kind, 6) + 1):
            lots.extend(combinations(range(kind), size))
        choices.append(lots)
    return [Book(parents) for parents in product(*choices)]


def small_books():
    """All books of up to four kinds."""
    return [book for many in range(5) for book in all_books(many)]


def drawn_book(seed, many, most=3, reach=400):
    """A book drawn by a seed: up to so many parents for each kind, from the last reach kinds."""
    draw = Random(seed)
    rows = []
    for kind in range(many):
        pool = range(max(0, kind - reach), kind)
        size = min(draw.randint(0, most), len(pool))
        rows.append(tuple(sorted(draw.sample(pool, size))))
    return Book(tuple(rows))


def drawn_books(times, many, most=3):
    return [drawn_book(1000 * many + seed, many, most) for seed in range(times)]


def row_book(many):
    """All kinds in one row."""
    return Book(tuple((kind - 1,) if kind else () for kind in range(many)))


def flat_book(many):
    """All kinds beside one another."""
    return Book(((),) * many)


def rows_book(*sizes):
    """Rows of these sizes, beside one another."""
    parents = []
    for size in sizes:
        for at in range(size):
            parents.append((len(parents) - 1,) if at else ())
    return Book(tuple(parents))


def grid_book(high, wide):
    parents = []
    for row in range(high):
        for column in range(wide):
            here = row * wide + column
            above = (here - wide,) if row else ()
            left = (here - 1,) if column else ()
            parents.append(above + left)
    return Book(tuple(parents))


def walked(book, x):
    """The set of all that x is, by walking along the parents."""
    seen = {x}
    pending = [x]
    while pending:
        for parent in book.parents[pending.pop()]:
            if parent not in seen:
                seen.add(parent)
                pending.append(parent)
    return seen


def walked_all(book):
    return [walked(book, kind) for kind in range(len(book.parents))]


def slow_side_by_side(book):
    """All lots of kinds side by side, ascending, by going through all lots (few kinds)."""
    ups = walked_all(book)
    found = []
    for size in range(len(ups) + 1):
        for lot in combinations(range(len(ups)), size):
            if all(a not in ups[b] for a, b in combinations(lot, 2)):
                found.append(lot)
    return sorted(found)


def slow_widest(book):
    """All lots of the greatest size that lie side by side, ascending."""
    lots = slow_side_by_side(book)
    most = max(len(lot) for lot in lots)
    return [lot for lot in lots if len(lot) == most]


def deep(depth, wrap, core):
    for _ in range(depth):
        core = wrap(core)
    return core


def odd_things():
    """Things of many built-in types, and of this package, that are no integer, no tuple and no string of use."""
    things = [
        None, True, False, Ellipsis, NotImplemented, "", "0", "a", "0 1\n", b"", b"\x00", bytearray(b"\x01"),
        [], [0], [()], [[]], {}, {0: ()}, {(): 0}, {"parents": ()}, range(0), range(3), slice(0, 1), object(),
        len, int, tuple, Book, NoKind, NoKind(), ValueError("x"), Book(()), Book(((), (0,))), iter([0]),
        memoryview(b"ab"), lambda: 0, [0] * 9999, "x" * 20000, {"a": [1, {"b": (None,)}]}, zip(), enumerate([]),
    ]
    for core in (0, (), [], "", None, True):
        things.append(deep(39, lambda x: [x], core))
        things.append(deep(39, lambda x: {"k": x}, core))
    return things


def odd_tuples():
    """Tuples none of which is a lot, an order, parents of a book or a dealing, and deep ones."""
    things = [(thing,) for thing in odd_things()]
    things += [(thing, thing) for thing in odd_things()]
    things += [((thing,),) for thing in odd_things()]
    things += [deep(39, lambda x: (x,), core) for core in (0, (), [], "", None, True)]
    things += [deep(39, lambda x: (x, ()), core) for core in (0, None)]
    things += [(-1,), (10 ** 79,), (-10 ** 79,), (10 ** 79, 10 ** 79), (None,) * 9999, (True,) * 9999]
    return things


def odd_numbers():
    """Integers that stand for nothing in books of a few hundred kinds."""
    return [-1, -2, 500, 10 ** 9, 10 ** 79, -(10 ** 79)]

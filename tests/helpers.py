"""Books for the tests, things that are none of what is asked for, and slow plain ways to the same answers."""

from itertools import combinations, product
from random import Random

from latekinds.books import Book
from latekinds.errors import NoKind


def all_books(many):
    """All books of so many kinds (few)."""
    choices = []
    for kind in range(many):
        lots = []
        for size in range(min(kind, 6) + 1):
            lots.extend(combinations(range(kind), size))
        choices.append(lots)
    return [Book(parents) for parents in product(*choices)]


def small_books():
    """All books of up to four kinds."""
    return [book for many in range(5) for book in all_books(many)]


def drawn_book(seed, many, most=3, reach=400):
    """A book drawn by a seed: up to so many parents for each kind, from the last reach kinds."""
    draw = Random(seed)
    rows = []
    for kind in range(many):
        pool = range(max(0, kind - reach), kind)
        size = min(draw.randint(0, most), len(pool))
        rows.append(tuple(sorted(draw.sample(pool, size))))
    return Book(tuple(rows))


def drawn_books(times, many, most=3):
    return [drawn_book(1000 * many + seed, many, most) for seed in range(times)]


def row_book(many):
    """All kinds in one row."""
    return Book(tuple((kind - 1,) if kind else () for kind in range(many)))


def flat_book(many):
    """All kinds beside one another."""
    return Book(((),) * many)


def rows_book(*sizes):
    """Rows of these sizes, beside one another."""
    parents = []
    for size in sizes:
        for at in range(size):
            parents.append((len(parents) - 1,) if at else ())
    return Book(tuple(parents))


def grid_book(high, wide):
    parents = []
    for row in range(high):
        for column in range(wide):
            here = row * wide + column
            above = (here - wide,) if row else ()
            left = (here - 1,) if column else ()
            parents.append(above + left)
    return Book(tuple(parents))


def walked(book, x):
    """The set of all that x is, by walking along the parents."""
    seen = {x}
    pending = [x]
    while pending:
        for parent in book.parents[pending.pop()]:
            if parent not in seen:
                seen.add(parent)
                pending.append(parent)
    return seen


def walked_all(book):
    return [walked(book, kind) for kind in range(len(book.parents))]


def slow_side_by_side(book):
    """All lots of kinds side by side, ascending, by going through all lots (few kinds)."""
    ups = walked_all(book)
    found = []
    for size in range(len(ups) + 1):
        for lot in combinations(range(len(ups)), size):
            if all(a not in ups[b] for a, b in combinations(lot, 2)):
                found.append(lot)
    return sorted(found)


def slow_widest(book):
    """All lots of the greatest size that lie side by side, ascending."""
    lots = slow_side_by_side(book)
    most = max(len(lot) for lot in lots)
    return [lot for lot in lots if len(lot) == most]


def deep(depth, wrap, core):
    for _ in range(depth):
        core = wrap(core)
    return core


def odd_things():
    """Things of many built-in types, and of this package, that are no integer, no tuple and no string of use."""
    things = [
        None, True, False, Ellipsis, NotImplemented, "", "0", "a", "0 1\n", b"", b"\x00", bytearray(b"\x01"),
        [], [0], [()], [[]], {}, {0: ()}, {(): 0}, {"parents": ()}, range(0), range(3), slice(0, 1), object(),
        len, int, tuple, Book, NoKind, NoKind(), ValueError("x"), Book(()), Book(((), (0,))), iter([0]),
        memoryview(b"ab"), lambda: 0, [0] * 9999, "x" * 20000, {"a": [1, {"b": (None,)}]}, zip(), enumerate([]),
    ]
    for core in (0, (), [], "", None, True):
        things.append(deep(39, lambda x: [x], core))
        things.append(deep(39, lambda x: {"k": x}, core))
    return things


def odd_tuples():
    """Tuples none of which is a lot, an order, parents of a book or a dealing, and deep ones."""
    things = [(thing,) for thing in odd_things()]
    things += [(thing, thing) for thing in odd_things()]
    things += [((thing,),) for thing in odd_things()]
    things += [deep(39, lambda x: (x,), core) for core in (0, (), [], "", None, True)]
    things += [deep(39, lambda x: (x, ()), core) for core in (0, None)]
    things += [(-1,), (10 ** 79,), (-10 ** 79,), (10 ** 79, 10 ** 79), (None,) * 9999, (True,) * 9999]
    return things


def odd_numbers():
    """Integers that stand for nothing in books of a few hundred kinds."""
    return [-1, -2, 500, 10 ** 9, 10 ** 79, -(10 ** 79)]


def drawn_tree(seed, many, roots=0):
    """A book drawn by a seed in which each kind has at most one parent; so many in ten begin anew."""
    draw = Random(seed)
    rows = [() if kind == 0 or draw.randrange(10) < roots else (draw.randrange(kind),) for kind in range(many)]
    return Book(tuple(rows))


def drawn_dealing(book, seed):
    """A dealing drawn by a seed, its rows in any order."""
    draw = Random(seed)
    ups = walked_all(book)
    rows = []
    for kind in range(len(ups)):
        fitting = [row for row in rows if row[-1] in ups[kind]]
        if fitting and draw.randrange(4):
            draw.choice(fitting).append(kind)
        else:
            rows.append([kind])
    draw.shuffle(rows)
    return tuple(tuple(row) for row in rows)


def drawn_scheme(seed, many):
    """A scheme, mostly a wrong one: slots with gaps or of 72 digits, numbers of either sign, rows of any length."""
    draw = Random(seed)
    great = [10 ** 71 + 3, 10 ** 72 - 1, -(10 ** 71)]
    scheme = []
    for _ in range(many):
        slot = draw.choice([draw.randrange(6), draw.randrange(6), draw.randrange(40), great[draw.randrange(2)]])
        number = draw.choice([draw.randint(-3, 3), draw.randint(-3, 3), draw.choice(great)])
        row = [draw.choice([draw.randint(-3, 3), draw.choice(great)]) for _ in range(draw.randrange(9))]
        scheme.append((slot, number, tuple(row)))
    return tuple(scheme)


def slow_says(scheme, x, p):
    """Whether the scheme says that x is a p, by the words of the document."""
    slot, number = scheme[p][0], scheme[p][1]
    entries = dict(enumerate(scheme[x][2]))
    return slot in entries and entries[slot] >= number


def no_schemes():
    """Things that are no scheme for any book."""
    right = (0, 1, (1,))
    things = odd_things() + [thing for thing in odd_tuples() if thing] + odd_numbers() + [0]
    things = [thing for thing in things if thing != ()]
    for item in (
        (True, 1, (1,)), (False, 1, (1,)), (-1, 1, (1,)), (-(10 ** 71), 1, (1,)), ("0", 1, (1,)), (None, 1, (1,)),
        ((0,), 1, (1,)), ([0], 1, (1,)), (0, True, (1,)), (0, "1", (1,)), (0, None, (1,)), (0, (1,), (1,)),
        (0, 1, [1]), (0, 1, None), (0, 1, 1), (0, 1, "1"), (0, 1, b"1"), (0, 1, {0: 1}), (0, 1, (True,)),
        (0, 1, (1, False)), (0, 1, (1, None)), (0, 1, (1, "1")), (0, 1, ((1,),)), (0, 1, (1, [])), (0, 1),
        (0, 1, (1,), 1), (0, 1, (1,), ()), [0, 1, (1,)], (1,), (), "01a", {0: 0, 1: 1, 2: (1,)},
        (0, 1, {}), (0, {}, ()), ({}, 1, ()),
        (0, 1, range(1)), (0, 1, deep(37, lambda x: (x,), 1)), (0, deep(37, lambda x: (x,), 1), ()),
        (deep(37, lambda x: [x], 1), 1, ()), Book(()), None, 0,
    ):
        things += [(item,), (right, item), (item, right), (right, right, item, right)]
    things += [[right], [], list(range(3)), {0: right}, ((right,),), (right, [right]), iter((right,))]
    return things


def kinds_that_are_none(many):
    """Things that are no kind among so many."""
    return odd_things() + odd_tuples()[:60] + odd_numbers() + [many, many + 1, -many]


def no_names():
    """Things that are no names of bits."""
    things = [thing for thing in odd_things() + odd_tuples() + odd_numbers() if thing not in ("", "0")]
    things += ["2", "01a", " 01", "01 ", "0 1", "01\n", "\n", "\t0", "-1", "0b1", "O1", "l", "a" * 20000]
    things += ["0" * 9999 + "~", "~" + "0" * 9999]
    return things + [b"01", ["0", "1"], ("0", "1"), [], ["01"], ("01",), {"0": "1"}, 0, 1, 10, 11, True, False]

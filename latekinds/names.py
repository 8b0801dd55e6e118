"""Names: kinds named by bits alone, and trees that break each naming by shorter ones."""

from latekinds.books import Book, beginning
from latekinds.checks import is_number
from latekinds.errors import NoName, NoNumber, NotTree

LEAST_BROKEN = 2
MOST_BROKEN = 9


def is_name(thing):
    """Whether it is a string of the two signs, perhaps empty."""
    return isinstance(thing, str) and thing.strip("01") == ""


def check_names(name, other):
    """Raises NoName if one of both is none."""
    for thing in (name, other):
        if not is_name(thing):
            raise NoName()


def web_names(book):
    """The names of all kinds, with a sign for each kind ahead."""
    names = []
    for kind, mask in enumerate(book.above):
        names.append("".join(["1" if mask >> elder & 1 else "0" for elder in range(kind)]))
    return tuple(names)


def web_says(name, other):
    """Whether the kind of the web name is one of the kind of the other web name.

    A name is as long as the number of its kind, so it has a sign for the other kind if it is longer.
    """
    check_names(name, other)
    if len(name) > len(other):
        return name[len(other)] == "1"
    return name == other


def tree_names(book):
    """The names of all kinds of a tree, each beginning with its parent's name."""
    names = []
    children = [0 for _ in book.parents]
    for kind, parents in enumerate(book.parents):
        if kind == 0:
            names.append("")
        elif len(parents) == 1:
            parent = parents[0]
            names.append(names[parent] + "1" * children[parent] + "0")
            children[parent] += 1
        else:
            raise NotTree(kind)
    return tuple(names)


def tree_says(name, other):
    """Whether the kind of the tree name is one of the kind of the other tree name."""
    check_names(name, other)
    return name.startswith(other)


def check_many(many):
    """Raises NoNumber for what is no number of kinds for which namings are broken."""
    if not is_number(many, LEAST_BROKEN, MOST_BROKEN):
        raise NoNumber()


def broken(naming, teller, many):
    """A tree of so many kinds for which the naming fails by names of less than many - 1 signs.

    One of the leaning trees is such a tree. By the teller a name to come is or is not one of the new kind's, and it is
    never that kind's own; lean on the new kind or not, whichever leaves fewer names to come. 2 ** (many - 1) - 2 names
    are left behind the first kind, less than half of them behind the next one, and so on: none for the last kind.
    """
    check_many(many)
    for choices in range(1 << (many - 2)):
        book = leaning_tree(choices, many)
        if fails(naming, teller, book):
            break
    return book


def leaning_tree(choices, many):
    """The tree in which all kinds to come lean on the last kind whose bit is 1 in choices, at first on kind 0."""
    rows = [()]
    parent = 0
    for kind in range(1, many):
        rows.append((parent,))
        if choices >> (kind - 1) & 1:
            parent = kind
    return Book(tuple(rows))


def is_broken(naming, teller, many, thing):
    """Whether it is a tree of so many kinds for which the naming fails."""
    check_many(many)
    if not isinstance(thing, Book) or len(thing.parents) != many:
        return False
    if not all([len(parents) == 1 for parents in thing.parents[1:]]):
        return False
    return fails(naming, teller, thing)


def fails(naming, teller, book):
    """Whether the naming gives no names, or one that is too long, or the teller tells by them what is not so."""
    many = len(book.parents)
    names = []
    for kind in range(many):
        name = naming(beginning(book, kind + 1))
        if not is_name(name) or len(name) >= many - 1:
            return True
        names.append(name)
    for x, name in enumerate(names):
        for p, other in enumerate(names):
            if not is_flag_for(teller(name, other), book.above[x] >> p & 1):
                return True
    return False


def is_flag_for(told, bit):
    """Whether what was told is the very flag, not only something like it."""
    return told is True if bit else told is False

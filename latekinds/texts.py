"""Texts: books and schemes, a line for each kind."""

from latekinds.books import Book
from latekinds.errors import BadText
from latekinds.schemes import check_scheme
from latekinds.words import decimal, is_figures, is_signed, joined, parted

KIND_FIGURES = 9
ENTRY_FIGURES = 60


def book_text(book):
    """A line for each kind: its parents with blanks between, `-` for none."""
    return "".join([parents_line(row) + "\n" for row in book.parents])


def parents_line(parents):
    """The line of a kind with these parents."""
    return " ".join([str(parent) for parent in parents]) if parents else "-"


def read_book(text):
    """The book of such a text."""
    return Book(read_lines(text, read_parents))


def read_lines(text, read_line):
    """The tuple of what read_line tells of each line; what it tells None of, or what is not closed, is wrong."""
    if not isinstance(text, str):
        raise BadText(0)
    lines = text.split("\n")
    behind = lines.pop()
    found = []
    for at, line in enumerate(lines):
        told = read_line(line)
        if told is None:
            raise BadText(at + 1)
        found.append(told)
    if behind != "":
        raise BadText(len(lines) + 1)
    return tuple(found)


def read_parents(line):
    """The tuple of integers of a line of a book, None for what is none."""
    words = [] if line == "-" else line.split(" ")
    if not all([is_figures(word, KIND_FIGURES) for word in words]):
        return None
    return tuple([int(word) for word in words])


def scheme_text(scheme):
    """A line for each kind: its slot, its number and its entries."""
    check_scheme(scheme)
    return "".join([triple_line(triple) + "\n" for triple in scheme])


def triple_line(triple):
    """The line of a slot, a number and a row."""
    slot, number, row = triple
    entries = joined([decimal(entry) for entry in row])
    return f"{decimal(slot)} {decimal(number)}: {entries}"


def read_scheme(text):
    """The scheme of such a text."""
    return read_lines(text, read_triple)


def read_triple(line):
    """The slot, the number and the row of a line of a scheme, None for what is none."""
    head, _, tail = line.partition(": ")
    slot, _, number = head.partition(" ")
    words = parted(tail)
    if not is_figures(slot, KIND_FIGURES) or not is_signed(number, ENTRY_FIGURES):
        return None
    if not all([is_signed(word, ENTRY_FIGURES) for word in words]):
        return None
    return int(slot), int(number), tuple([int(word) for word in words])

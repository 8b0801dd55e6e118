import unittest
from random import Random

from latekinds.books import Book, beside, loaded
from latekinds.errors import BadBook, BadText, NoScheme
from latekinds.fields import count_layings
from latekinds.rule import told_scheme
from latekinds.texts import book_text, read_book, read_scheme, scheme_text
from tests.helpers import (
    drawn_book, drawn_books, drawn_scheme, flat_book, grid_book, no_schemes, odd_numbers, odd_things, odd_tuples,
    row_book, small_books,
)

FORK = Book(((), (), (0, 1), (0,)))
SIGNS = [chr(number) for number in range(32, 127)] + ["\n", "\t"]
NO_STRINGS = [thing for thing in odd_things() + odd_tuples() + odd_numbers() if not isinstance(thing, str)]


def is_plain(word, most):
    """Whether a word is an integer of at most so many figures, sign by sign."""
    if not 1 <= len(word) <= most or any(sign not in "0123456789" for sign in word):
        return False
    return not (len(word) > 1 and word[0] == "0")


def is_with_sign(word, most):
    return is_plain(word[1:], most) and word != "-0" if word[:1] == "-" else is_plain(word, most)


def is_book_line(line):
    return line == "-" or all(is_plain(word, 9) for word in line.split(" "))


def is_scheme_line(line):
    parts = line.split(" ")
    if len(parts) != 3 or not parts[1].endswith(":"):
        return False
    if not is_plain(parts[0], 9) or not is_with_sign(parts[1][:-1], 60):
        return False
    return parts[2] == "-" or all(is_with_sign(word, 60) for word in parts[2].split(","))


def wrong_line(text, is_line):
    """The number of the first line that is wrong, None if there is none."""
    at = 1
    rest = text
    while "\n" in rest:
        line, rest = rest[:rest.index("\n")], rest[rest.index("\n") + 1:]
        if not is_line(line):
            return at
        at += 1
    return at if rest else None


def slow_read_book(text):
    """What reading the text is to tell: an error and its field, or the book's parents."""
    line = wrong_line(text, is_book_line)
    if line is not None:
        return BadText, line
    rows = tuple(() if row == "-" else tuple(map(int, row.split(" "))) for row in text.split("\n")[:-1])
    if len(rows) > 400:
        return BadBook, -1
    for at, row in enumerate(rows):
        if len(row) > 6 or list(row) != sorted(set(row)) or any(kind >= at for kind in row):
            return BadBook, at
    return rows


def slow_read_scheme(text):
    line = wrong_line(text, is_scheme_line)
    if line is not None:
        return BadText, line
    scheme = []
    for row in text.split("\n")[:-1]:
        slot, number, entries = row.split(" ")
        entries = () if entries == "-" else tuple(map(int, entries.split(",")))
        scheme.append((int(slot), int(number[:-1]), entries))
    return tuple(scheme)


def changed_texts(draw, text, times):
    """The text with one sign changed, put in or left out, lines left out, doubled or exchanged, or cut."""
    yield text
    for _ in range(times):
        at = draw.randrange(len(text) + 1)
        sign = draw.choice(draw.choice([SIGNS, "0123456789", "- ,:\n"]))
        yield text[:at] + sign + text[at + 1:]
        yield text[:at] + sign + text[at:]
        yield text[:at] + text[at + 1:]
        yield text[:at]
        lines = text.split("\n")
        one, other = draw.randrange(len(lines)), draw.randrange(len(lines))
        yield "\n".join(lines[:one] + lines[one + 1:])
        lines[one], lines[other] = lines[other], lines[one]
        yield "\n".join(lines)


class Case(unittest.TestCase):
    def reads_as(self, read, text, wanted):
        """Reading tells what is wanted, a thing or an error with its field."""
        if isinstance(wanted, tuple) and len(wanted) == 2 and wanted[0] in (BadText, BadBook):
            with self.assertRaises(wanted[0], msg=repr(text)) as caught:
                read(text)
            self.assertIs(type(caught.exception), wanted[0], repr(text))
            self.assertEqual(list(vars(caught.exception).values()), [wanted[1]], repr(text))
        else:
            told = read(text)
            self.assertEqual(told.parents if isinstance(told, Book) else told, wanted, repr(text))


class Books(Case):
    def test_there_and_back(self):
        books = small_books() + drawn_books(20, 12, 6) + [grid_book(20, 20), flat_book(400), row_book(400)]
        for book in books:
            text = book_text(book)
            lines = [" ".join(map(str, row)) if row else "-" for row in book.parents]
            self.assertEqual(text, "".join(line + "\n" for line in lines))
            self.assertTrue(read_book(text) == book)
            self.assertIs(type(read_book(text)), Book)

    def test_known(self):
        self.assertEqual(book_text(FORK), "-\n-\n0 1\n0\n")
        self.assertEqual(book_text(Book(())), "")
        self.assertTrue(read_book("") == Book(()))

    def test_wrong_lines(self):
        for text, line in (
            ("-", 1), ("-\n-", 2), ("\n", 1), ("-\n\n", 2), ("-\n-\n0 1", 3), ("-\n0\nx", 3), ("-\n0 \n", 2), (" -\n", 1),
            ("- \n", 1), ("-\n 0\n", 2), ("-\n-\n0  1\n", 3), ("-\n-\n0\t1\n", 3), ("-\n-\n0,1\n", 3), ("-\n00\n", 2),
            ("-\n-\n01\n", 3), ("-\n+0\n", 2), ("-\n-0\n", 2), ("-\n-1\n", 2), ("-\n0x0\n", 2), ("-\n0 -\n", 2),
            ("-\n- 0\n", 2), ("--\n", 1), ("-\n1_0\n", 2), ("-\n1234567890\n", 2), ("-\n0 1000000000\n", 2), (" ", 1),
            ("-\n0\n ", 3), ("-\n0\n-", 3), ("x\ny", 1), ("-\nx\n-\ny\n", 2), ("0.0\n", 1), ("-\n-\n1\t\n", 3),
        ):
            self.reads_as(read_book, text, (BadText, line))
            self.assertEqual(slow_read_book(text), (BadText, line))

    def test_bad_book_behind_it(self):
        for text, at in (
            ("0\n", 0), ("-\n1\n", 1), ("-\n123456789\n", 1), ("-\n-\n1 0\n", 2), ("-\n-\n0 0\n", 2), ("-\n999999999\n-\n", 1),
            ("-\n" * 6 + "0 1 2 3 4 5\n0 1 2 3 4 5 6\n", 7), ("-\n" * 401, -1), ("5\n" * 401, -1), ("-\n" * 399 + "0\n-\n", -1),
        ):
            self.reads_as(read_book, text, (BadBook, at))
        self.reads_as(read_book, "0\nx\n", (BadText, 2))
        self.reads_as(read_book, "0\n-", (BadText, 2))
        self.reads_as(read_book, "-\n" * 401 + "-", (BadText, 402))
        self.reads_as(read_book, "-\n" * 450 + "x\n", (BadText, 451))
        self.reads_as(read_book, "-\n" * 400, ((),) * 400)
        self.reads_as(read_book, "-\n" + "0 " * 9000 + "0\n", (BadBook, 1))

    def test_changed_by_a_sign_or_a_line(self):
        draw = Random(1)
        kinds = {}
        for book in drawn_books(25, 9, 4) + [FORK, flat_book(3), row_book(12)]:
            for text in changed_texts(draw, book_text(book), 40):
                wanted = slow_read_book(text)
                kinds[wanted[0] if wanted and wanted[0] in (BadText, BadBook) else None] = True
                self.reads_as(read_book, text, wanted)
        self.assertEqual(len(kinds), 3)

    def test_books_beyond_what_may_be_read(self):
        great = beside(flat_book(300), row_book(300))
        self.assertEqual(book_text(great), "-\n" * 301 + "".join(f"{300 + at}\n" for at in range(299)))
        self.reads_as(read_book, book_text(great), (BadBook, -1))
        self.assertEqual(book_text(loaded(flat_book(400), (0, 399))), "-\n" * 400 + "0 399\n")

    def test_no_string(self):
        for thing in NO_STRINGS:
            self.reads_as(read_book, thing, (BadText, 0))
            self.reads_as(read_scheme, thing, (BadText, 0))


class Schemes(Case):
    def test_there_and_back(self):
        schemes = [told_scheme(book) for book in small_books()[::3] + drawn_books(20, 12) + [grid_book(20, 20)]]
        schemes += [told_scheme(drawn_book(2, 400, 3))]
        for scheme in schemes:
            lines = [f"{slot} {number}: {','.join(map(str, row)) or '-'}" for slot, number, row in scheme]
            text = scheme_text(scheme)
            self.assertEqual(text, "".join(line + "\n" for line in lines))
            self.assertEqual(read_scheme(text), scheme)

    def test_any_schemes(self):
        for seed in range(60):
            scheme = drawn_scheme(seed, seed % 8)
            lines = [f"{slot} {number}: {','.join(map(str, row)) or '-'}" for slot, number, row in scheme]
            text = scheme_text(scheme)
            self.assertEqual(text, "".join(line + "\n" for line in lines))
            self.reads_as(read_scheme, text, slow_read_scheme(text))

    def test_known(self):
        self.assertEqual(scheme_text(()), "")
        self.assertEqual(read_scheme(""), ())
        self.assertEqual(scheme_text(((0, -3, ()), (12, 0, (1, -2, 0)))), "0 -3: -\n12 0: 1,-2,0\n")
        self.assertEqual(read_scheme("0 -3: -\n12 0: 1,-2,0\n"), ((0, -3, ()), (12, 0, (1, -2, 0))))
        self.assertEqual(scheme_text(told_scheme(FORK)), "0 1: 1\n1 1: 0,1\n2 1: 1,1,1\n0 2: 2,0,0\n")

    def test_figures(self):
        ones, many = "1" * 60, "1" * 61
        self.assertEqual(read_scheme(f"999999999 {ones}: -{ones},{ones}\n"), ((999999999, int(ones), (-int(ones), int(ones))),))
        for text in (
            f"0 {many}: -\n", f"0 -{many}: -\n", f"0 0: {many}\n", f"0 0: 0,-{many}\n", "1000000000 0: -\n", "1234567890 0: 0\n",
            "00 0: 0\n", "01 0: 0\n", "-1 0: 0\n", "-0 0: 0\n", "0 -0: 0\n", "0 0: -0\n", "0 00: 0\n", "0 0: 01\n", "0 0: -01\n",
            "0 -01: 0\n", "+0 0: 0\n", "0 +0: 0\n", "0 0: +1\n", "0 0: --1\n", "0 --1: 0\n", "0 0: 1,\n", "0 0: ,1\n",
            "0 0: 1,,1\n", "0 0: 1, 1\n", "0 0: 1 1\n", "0 0: \n", "0 0:\n", "0 0:1\n", "0 0 1\n", "0 0\n", "0\n", "\n", ": \n",
            "0: 1\n", "0 0:  1\n", "0 0 : 1\n", "0  0: 1\n", " 0 0: 1\n", "0 0: 1 \n", "0 0: -,1\n", "0 0: 1,-\n", "0 0: 1: 1\n",
            "0 0: - \n", "0\t0: 1\n", "0 0:\t1\n", "0 0: 1_1\n", "0 -: 1\n", "- 0: 1\n", "0 0 0: 1\n", "x 0: 1\n", "0 x: 1\n",
            "0 0: x\n",
        ):
            self.assertEqual(slow_read_scheme(text), (BadText, 1), text)
            self.reads_as(read_scheme, text, (BadText, 1))
            self.reads_as(read_scheme, "0 0: -\n" * 450 + text, (BadText, 451))

    def test_changed_by_a_sign_or_a_line(self):
        draw = Random(2)
        seen = {}
        texts = [scheme_text(told_scheme(book)) for book in drawn_books(20, 6, 3) + [FORK]]
        texts += ["5 -12: -\n0 0: -1,0,30\n", "0 0: -\n", "9 100: 1,2,-3\n" * 3]
        for kept in texts:
            for text in changed_texts(draw, kept, 40):
                wanted = slow_read_scheme(text)
                seen[wanted[:1] == (BadText,)] = True
                self.reads_as(read_scheme, text, wanted)
        self.assertEqual(len(seen), 2)

    def test_last_line_feed(self):
        for text, line in (("0 0: -", 1), ("0 0: -\n0", 2), ("0 0: -\n0 0: -", 2), ("0 0: -\n ", 2), ("x\n0", 1)):
            self.reads_as(read_scheme, text, (BadText, line))

    def test_no_scheme(self):
        for thing in no_schemes():
            with self.assertRaises(NoScheme):
                scheme_text(thing)

    def test_integers_of_any_size(self):
        great = count_layings(beside(flat_book(400), beside(flat_book(400), flat_book(400))), (6,) * 1200)
        text = scheme_text(((0, great, (-great, 0, 10 ** 64, 10 ** 64 - 1, -(10 ** 128), 10 ** 4000 + 7)),))
        head, number, row = text[:-1].split(" ")
        self.assertEqual((head, number[-1]), ("0", ":"))
        first, *others = row.split(",")
        self.assertEqual(first, "-" + number[:-1])
        told = 0
        for figure in number[:-1]:
            told = told * 10 + int(figure)
        self.assertEqual(told, great)
        wanted = ["0", "1" + "0" * 64, "9" * 64, "-1" + "0" * 128, "1" + "0" * 3999 + "7"]
        self.assertEqual(others, wanted)


class NothingChanges(Case):
    def test_arguments_stay_and_equal_calls_tell_alike(self):
        book = drawn_book(7, 12)
        kept = book.parents
        self.assertEqual(book_text(book), book_text(book))
        self.assertEqual(book.parents, kept)
        listed = [[0, 1, [1]]]
        self.assertRaises(NoScheme, scheme_text, listed)
        self.assertEqual(listed, [[0, 1, [1]]])


if __name__ == "__main__":
    unittest.main()

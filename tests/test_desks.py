import re
import unittest
from random import Random

from latekinds.books import Book
from latekinds.desks import Desk
from latekinds.errors import BadKind, KindError, NoBook, NoKind, NoLine, NothingDone, TooMany
from latekinds.rule import groups, told_scheme
from latekinds.schemes import many_slots
from latekinds.texts import book_text, scheme_text
from latekinds.widths import width
from tests.helpers import drawn_book, flat_book, odd_numbers, odd_things, odd_tuples, small_books, walked_all
from tests.test_texts import SIGNS

NUMBER = "(?:0|[1-9][0-9]{0,8})"
NAME = "[a-z]{1,8}"
FORM = re.compile(
    f"(?:new|drop|show|width|slots|groups) {NAME}|load {NAME} (?:-|{NUMBER}(?:,{NUMBER})*)|names|undo"
    f"|ask {NAME} {NUMBER} {NUMBER}|given {NAME} {NUMBER}"
)


class Hand:
    """A desk led by hand: books by their names, and what was there ahead of each line that can be taken back."""

    def __init__(self):
        self.kept = {}
        self.ahead = []

    def tell(self, line):
        """What the line tells: a string, or an error's class and its field."""
        if not isinstance(line, str) or not FORM.fullmatch(line):
            return NoLine, None
        word, *parts = line.split(" ")
        if word == "names":
            return " ".join(sorted(self.kept)) if self.kept else "none"
        if word == "undo":
            if not self.ahead:
                return NothingDone, None
            self.kept = self.ahead.pop()
            return "ok"
        name = parts[0]
        if word != "new" and name not in self.kept:
            return NoBook, name
        if word in ("new", "drop"):
            self.ahead.append(dict(self.kept))
            if word == "new":
                self.kept[name] = ()
            else:
                del self.kept[name]
            return "ok"
        return self.told_of(word, name, self.kept[name], parts[1:])

    def told_of(self, word, name, rows, parts):
        book = Book(rows)
        if word == "load":
            parents = tuple(map(int, parts[0].split(","))) if parts[0] != "-" else ()
            if parents != tuple(sorted(set(parents))) or len(parents) > 6 or any(kind >= len(rows) for kind in parents):
                return BadKind, None
            if len(rows) == 400:
                return TooMany, 400
            self.ahead.append(dict(self.kept))
            self.kept[name] = rows + (parents,)
            return str(len(rows))
        if any(int(part) >= len(rows) for part in parts):
            return NoKind, None
        if word == "ask":
            return "yes" if int(parts[1]) in walked_all(book)[int(parts[0])] else "no"
        if word == "given":
            return scheme_text(told_scheme(book)).split("\n")[int(parts[0])]
        if word == "show":
            return "".join(line + "|" for line in book_text(book).split("\n")[:-1]) if rows else "none"
        if word == "width":
            return str(width(book))
        if word == "slots":
            return str(many_slots(told_scheme(book)))
        told = [",".join(map(str, group)) if group else "-" for group in groups(book)]
        return " ".join(told) if told else "none"


def all_told(desk):
    """All that a desk tells without a change."""
    names = desk.tell("names")
    told = [names, desk.undoable()]
    for name in names.split(" ") if names != "none" else []:
        told += [desk.tell(f"{word} {name}") for word in ("show", "width", "slots", "groups")]
    return told


class Case(unittest.TestCase):
    def both(self, desk, hand, line):
        """The line told by the desk and by hand, which must be alike."""
        before = None if isinstance(line, str) and FORM.fullmatch(line) else all_told(desk)
        wanted = hand.tell(line)
        if isinstance(wanted, str):
            self.assertEqual(desk.tell(line), wanted, line)
        else:
            with self.assertRaises(wanted[0], msg=line) as caught:
                desk.tell(line)
            self.assertIs(type(caught.exception), wanted[0])
            self.assertEqual(list(vars(caught.exception).values()), [] if wanted[1] is None else [wanted[1]])
        self.assertEqual(desk.undoable(), len(hand.ahead))
        if before is not None:
            self.assertEqual(all_told(desk), before)

    def lead(self, *lines):
        desk, hand = Desk(), Hand()
        for line in lines:
            self.both(desk, hand, line)
        return desk, hand


class Lines(Case):
    def test_known(self):
        desk = Desk()
        for line, told in (
            ("names", "none"), ("new b", "ok"), ("new a", "ok"), ("names", "a b"), ("show a", "none"), ("width a", "0"),
            ("slots a", "0"), ("groups a", "none"), ("load a -", "0"), ("load a -", "1"), ("load a 0,1", "2"),
            ("load a 0", "3"), ("show a", "-|-|0 1|0|"), ("width a", "2"), ("slots a", "3"), ("groups a", "1 0,2"),
            ("given a 2", "2 1: 1,1,1"), ("given a 0", "0 1: 1"), ("ask a 2 1", "yes"), ("ask a 1 2", "no"),
            ("ask a 3 3", "yes"), ("load b -", "0"), ("load b -", "1"), ("groups b", "- 0,1"), ("drop b", "ok"),
            ("names", "a"), ("new zzzzzzzz", "ok"), ("names", "a zzzzzzzz"), ("undo", "ok"), ("undo", "ok"),
            ("show b", "-|-|"), ("undo", "ok"), ("show b", "-|"), ("new b", "ok"), ("show b", "none"), ("undo", "ok"),
            ("show b", "-|"),
        ):
            self.assertEqual(desk.tell(line), told, line)
        self.assertEqual(desk.undoable(), 7)

    def test_each_form_changed(self):
        desk, hand = self.lead("new a", "new abcdefgh", "load a -", "load a 0", "load abcdefgh -")
        forms = ("new a", "load a 0", "load a 0,1", "load a -", "drop a", "names", "undo", "ask a 0 1", "given a 1", "show a",
                 "width a", "slots a", "groups a", "load abcdefgh 0", "given abcdefgh 0")
        draw = Random(1)
        for form in forms:
            words = form.split(" ")
            lines = [form, form + " ", " " + form, form + "\n", "\n" + form, form + "\t", form + " 0", form + " a", form + " -"]
            lines += [form.replace(" ", "  "), form.replace(" ", "\t"), form.replace(" ", "\n"), form.upper(), form[:-1]]
            for at in range(len(words)):
                lines.append(" ".join(words[:at] + words[at + 1:]))
                lines.append(" ".join(words[:at] + words[at:at + 1] + words[at:]))
                for word in ("", "A", "a", "abcdefghi", "aB", "a1", "1", "00", "01", "-", "--", "-1", "+1", "1,", ",1", "0,,1", "0,-",
                             "0, 1", "999999999", "1000000000", "0,1000000000", "1,0", "0,0", "news", "load", "x"):
                    lines.append(" ".join(words[:at] + [word] + words[at + 1:]))
            for _ in range(60):
                at = draw.randrange(len(form) + 1)
                lines += [form[:at] + draw.choice(SIGNS) + form[at + draw.randrange(2):]]
            for line in lines:
                self.both(desk, hand, line)

    def test_names(self):
        desk, hand = Desk(), Hand()
        for name in ("a", "z", "abcdefgh", "zzzzzzzz", "new", "load", "names", "undo", "none", "abcdefghi", "", "A", "a0", "a-"):
            for line in (f"show {name}", f"new {name}", f"show {name}", "names", f"load {name} -", f"drop {name}", "undo"):
                self.both(desk, hand, line)

    def test_kinds_in_any_order(self):
        desk, hand = self.lead("new a", *["load a -"] * 8)
        for kinds in ("1,0", "0,0", "8", "0,8", "0,1,2,3,4,5", "0,1,2,3,4,5,6", "3,2,1", "999999999", "0," * 3000 + "0", "7", "-"):
            self.both(desk, hand, f"load a {kinds}")
            self.both(desk, hand, f"load b {kinds}")

    def test_no_line(self):
        desk, hand = self.lead("new a", "load a -")
        for thing in odd_things() + odd_tuples() + odd_numbers() + [b"names", ["names"], ("names",), None, 0, "names\n", "na\nmes"]:
            self.both(desk, hand, thing)

    def test_form_ahead_of_name_ahead_of_what_the_methods_raise(self):
        desk, hand = self.lead("new a", "load a -")
        for line, error in (
            ("ask b 0", NoLine), ("ask b 0 01", NoLine), ("ask b 0 5", NoBook), ("ask a 0 5", NoKind), ("ask a 5 0", NoKind),
            ("given b 7", NoBook), ("given a 1", NoKind), ("load b 1,0", NoBook), ("load a 1,0", BadKind), ("load b 1,", NoLine),
            ("drop b", NoBook), ("drop b c", NoLine), ("width b", NoBook), ("slots b", NoBook), ("groups b", NoBook),
            ("show b", NoBook),
        ):
            with self.assertRaises(error, msg=line) as caught:
                desk.tell(line)
            self.assertIs(type(caught.exception), error)
            self.both(desk, hand, line)
            if error is NoBook:
                self.assertEqual(caught.exception.name, "b")

    def test_four_hundred_kinds(self):
        desk, hand = self.lead("new a")
        book = drawn_book(2, 400, 3, 40)
        for kind, parents in enumerate(book.parents):
            self.assertEqual(desk.tell(f"load a {','.join(map(str, parents)) or '-'}"), str(kind))
        with self.assertRaises(TooMany) as caught:
            desk.tell("load a -")
        self.assertEqual(caught.exception.most, 400)
        self.assertRaises(BadKind, desk.tell, "load a 400")
        self.assertEqual(desk.undoable(), 401)
        self.assertEqual(desk.tell("show a"), book_text(book).replace("\n", "|"))
        self.assertEqual(desk.tell("width a"), str(width(book)))
        for kind in range(0, 400, 31):
            self.assertEqual(desk.tell(f"given a {kind}"), scheme_text(told_scheme(book)[kind:kind + 1])[:-1])
        for _ in range(401):
            self.assertEqual(desk.tell("undo"), "ok")
        self.assertRaises(NothingDone, desk.tell, "undo")

    def test_books(self):
        for book in small_books()[::4] + [flat_book(6), drawn_book(3, 14, 2)]:
            desk, hand = self.lead("new a", *[f"load a {','.join(map(str, row)) or '-'}" for row in book.parents])
            for line in ("show a", "width a", "slots a", "groups a"):
                self.both(desk, hand, line)
            for x in range(len(book.parents)):
                self.both(desk, hand, f"given a {x}")
                for p in range(len(book.parents)):
                    self.both(desk, hand, f"ask a {x} {p}")


class Undo(Case):
    def test_line_by_line(self):
        draw = Random(2)
        for seed in range(30):
            desk, hand = Desk(), Hand()
            kept = []
            for _ in range(80):
                name = draw.choice("abc")
                line = draw.choice([f"new {name}", f"drop {name}", "undo", f"ask {name} 1 0", f"show {name}", "names"]
                                   + [f"load {name} {draw.choice(['-', '0', '1', '0,1', '2', '1,3'])}"] * 6)
                before, many = all_told(desk), desk.undoable()
                self.both(desk, hand, line)
                if desk.undoable() > many:
                    kept.append(before)
                elif desk.undoable() < many:
                    self.assertEqual(all_told(desk), kept.pop())
            while kept:
                self.both(desk, hand, "undo")
                self.assertEqual(all_told(desk), kept.pop())
            self.both(desk, hand, "undo")
            self.assertEqual(desk.undoable(), 0)

    def test_known(self):
        desk = Desk()
        self.assertRaises(NothingDone, desk.tell, "undo")
        for line in ("new a", "load a -", "new a", "load a -", "load a 0", "drop a"):
            desk.tell(line)
        for shown in ("-|0|", "-|", "none", "-|", "none"):
            self.assertEqual(desk.tell("undo"), "ok")
            self.assertEqual(desk.tell("show a"), shown)
        desk.tell("undo")
        self.assertEqual((desk.tell("names"), desk.undoable()), ("none", 0))
        with self.assertRaises(NothingDone) as caught:
            desk.tell("undo")
        self.assertIsInstance(caught.exception, KindError)

    def test_desks_stand_apart(self):
        one, other = Desk(), Desk()
        one.tell("new a")
        self.assertEqual((other.tell("names"), other.undoable()), ("none", 0))


if __name__ == "__main__":
    unittest.main()

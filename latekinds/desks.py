"""Desks: runtimes kept under names, led by lines of words."""

from latekinds.errors import NoBook, NoLine, NothingDone
from latekinds.runtimes import Runtime
from latekinds.texts import book_text, scheme_text
from latekinds.widths import width
from latekinds.words import is_figures, joined, parted

LETTERS = "abcdefghijklmnopqrstuvwxyz"
MOST_LETTERS = 8
MOST_FIGURES = 9

# What stands behind the word of a line: n a name, l the parents of a kind, k a kind.
FORMS = {
    "new": "n", "load": "nl", "drop": "n", "names": "", "undo": "", "ask": "nkk", "given": "nk", "show": "n",
    "width": "n", "slots": "n", "groups": "n",
}


def is_name(word):
    """Whether a runtime may be kept under the word."""
    return 0 < len(word) <= MOST_LETTERS and word.strip(LETTERS) == ""


def is_kind_word(word):
    """Whether it is the number of a kind, which need not be there."""
    return is_figures(word, MOST_FIGURES)


def is_part(sort, word):
    """Whether the word may stand where a line has this sort of part."""
    if sort == "n":
        return is_name(word)
    if sort == "k":
        return is_kind_word(word)
    return all([is_kind_word(part) for part in parted(word)])


def words_of(line):
    """The words of a line that has one of the forms."""
    if not isinstance(line, str):
        raise NoLine()
    words = line.split(" ")
    if words[0] not in FORMS:
        raise NoLine()
    form = FORMS[words[0]]
    if len(words) != 1 + len(form) or not all([is_part(sort, word) for sort, word in zip(form, words[1:])]):
        raise NoLine()
    return words


def kind_numbers(word):
    """The tuple of the kinds that the word names."""
    return tuple([int(part) for part in parted(word)])


def given_line(runtime, kind):
    """What was given to the kind, as a scheme's text has it."""
    return scheme_text((runtime.given(kind),)).strip("\n")


def shown_book(runtime):
    """The text of the book in one line."""
    return book_text(runtime.book()).replace("\n", "|") or "none"


def shown_groups(runtime):
    """The groups in one line."""
    groups = [joined([str(slot) for slot in group]) for group in runtime.groups()]
    return " ".join(groups) if groups else "none"


def many_given(runtime):
    """How many slots were given: each stands in one group."""
    return sum([len(group) for group in runtime.groups()])


def asked(runtime, words):
    """What a line tells of the runtime that it names, which it does not change."""
    word = words[0]
    if word == "ask":
        return "yes" if runtime.ask(int(words[2]), int(words[3])) else "no"
    if word == "given":
        return given_line(runtime, int(words[2]))
    if word == "show":
        return shown_book(runtime)
    if word == "width":
        return str(width(runtime.book()))
    if word == "slots":
        return str(many_given(runtime))
    return shown_groups(runtime)


class Desk:
    """Keeps runtimes by their names in `kept`, and in `done` pairs of a name and of what a line put aside there.

    A runtime that is kept never changes: a line that loads a kind keeps another one in its place.
    """

    def __init__(self):
        self.kept = {}
        self.done = []

    def tell(self, line):
        """Does a line and tells what came of it."""
        words = words_of(line)
        word = words[0]
        if word == "names":
            return " ".join(sorted(self.kept)) or "none"
        if word == "undo":
            return self.undo()
        name = words[1]
        if word == "new":
            return self.put(name, Runtime())
        if name not in self.kept:
            raise NoBook(name)
        if word == "drop":
            return self.put(name, None)
        if word == "load":
            return self.load(name, kind_numbers(words[2]))
        return asked(self.kept[name], words)

    def load(self, name, parents):
        """Loads a kind and tells its number."""
        runtime = self.kept[name].copy()
        kind = runtime.load(parents)
        self.put(name, runtime)
        return str(kind)

    def put(self, name, runtime):
        """Keeps the runtime, or nothing for None, under the name."""
        self.done.append((name, self.kept.get(name)))
        self.keep(name, runtime)
        return "ok"

    def keep(self, name, runtime):
        """Has the runtime, or nothing for None, stand under the name."""
        if runtime is None:
            self.kept.pop(name, None)
        else:
            self.kept[name] = runtime

    def undo(self):
        """Takes the last line back that put something aside."""
        if not self.done:
            raise NothingDone()
        name, elder = self.done.pop()
        self.keep(name, elder)
        return "ok"

    def undoable(self):
        """How many lines can be taken back."""
        return len(self.done)

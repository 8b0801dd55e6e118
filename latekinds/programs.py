"""Programs: rows that load kinds, make objects and ask, and what they show when they are run."""

from latekinds.books import MOST_PARENTS
from latekinds.checks import is_number
from latekinds.courses import Course
from latekinds.errors import NoNumber, NoProgram
from latekinds.fields import MOST_FIELDS
from latekinds.plainly import Plain

MOST_ROWS = 60
MOST_DONE = 20000

# What stands in a row behind its word: x a place of a register, k a number of fields, f the number of a field, p the
# places of parents, n an integer, t the row to go to.
FORMS = {
    "set": "xn", "copy": "xx", "add": "xxx", "load": "xpk", "make": "xx", "kind": "xx", "write": "xxfx",
    "read": "xxxf", "is": "xxt", "less": "xxt", "go": "t", "show": "x",
}
LAST_REGISTER = 9
LAST_FIELD = 5
MOST_SET = 10 ** 9


def is_part(sort, thing, rows):
    """Whether it may stand where a row of so many has this sort of part."""
    if sort == "x":
        return is_number(thing, 0, LAST_REGISTER)
    if sort == "n":
        return is_number(thing, -MOST_SET, MOST_SET)
    if sort == "t":
        return is_number(thing, 0, rows)
    if sort == "f":
        return is_number(thing, 0, LAST_FIELD)
    if sort == "k":
        return is_number(thing, 0, MOST_FIELDS)
    if not isinstance(thing, tuple) or len(thing) > MOST_PARENTS:
        return False
    return all([is_number(part, 0, LAST_REGISTER) for part in thing])


def is_row(thing, rows):
    """Whether it is a row of a program of so many."""
    if not isinstance(thing, tuple) or not thing:
        return False
    word = thing[0]
    if not isinstance(word, str) or word not in FORMS:
        return False
    form = FORMS[word]
    if len(thing) != 1 + len(form):
        return False
    return all([is_part(sort, part, rows) for sort, part in zip(form, thing[1:])])


def check_rows(thing):
    """The number of the first item that is no row, -1 for no tuple of at most so many items, None for a program."""
    if not isinstance(thing, tuple) or len(thing) > MOST_ROWS:
        return -1
    for at, item in enumerate(thing):
        if not is_row(item, len(thing)):
            return at
    return None


def is_program(thing):
    """Whether it is a program."""
    return check_rows(thing) is None


def check_program(thing):
    """Raises NoProgram for what is none."""
    if not is_program(thing):
        raise NoProgram()


def check_most(thing):
    """Raises NoNumber for what is no number of rows to be done at most."""
    if not is_number(thing, 0, MOST_DONE):
        raise NoNumber()


def run(program, most):
    """The values that the program shows and how it ends when so many rows are done at most."""
    check_program(program)
    check_most(most)
    course = Course(program, Plain())
    for _ in range(most):
        if course.is_over():
            break
        course.carry_out(course.effect())
    return course.shown_values(), course.ending("most")

"""The loader: rules that are led, and books that beat them."""

from latekinds.books import Book, beginning
from latekinds.checks import is_number
from latekinds.contests import Contest, is_right, lasts_of
from latekinds.errors import NoNumber
from latekinds.rule import placed
from latekinds.widths import widths

MOST_WIDTH = 6
MOST_TOLD = 100


def led(rule, book):
    """The slots that the rule gives as long as it is right, and the kind at which it first is wrong, or None."""
    slots = ()
    for kind in range(len(book.parents)):
        slot = rule(beginning(book, kind + 1), slots)
        if not is_right(book, slots, slot):
            return slots, kind
        slots = slots + (slot,)
    return slots, None


def told_rule(book, slots):
    """The slot that the told rule gives to the last kind, whatever the slots are."""
    return placed(book)[-1]


def first_fit(book, slots):
    """The least right slot for the last kind."""
    above = book.above[-1]
    lasts = lasts_of(slots)
    for slot, last in enumerate(lasts):
        if above >> last & 1:
            return slot
    return len(lasts)


def most_loads(width):
    """How many loads are enough to beat each rule at this width."""
    if not is_number(width, 1, MOST_TOLD):
        raise NoNumber()
    one, other = 1, 2
    for _ in range(width - 1):
        one, other = one + other, one + 2 * other
    return other - 1


def most_loads_by_twos(width):
    """How many loads may be needed where each kind has two parents at most."""
    if not is_number(width, 1, MOST_TOLD):
        raise NoNumber()
    loads = [0]
    for wide in range(1, width + 1):
        loads.append(wide + sum([(wide - less) * (less + loads[less]) for less in range(1, wide)]))
    return loads[width]


def check_width(width):
    """Raises NoNumber for what is no width at which rules are beaten."""
    if not is_number(width, 1, MOST_WIDTH):
        raise NoNumber()


def slots_to_give(width):
    """How many slots a rule that is beaten has given."""
    return width * (width + 1) // 2


def beaten(rule, width):
    """A book on which the rule is wrong or gives width (width + 1) / 2 slots."""
    check_width(width)
    contest = Contest(rule, slots_to_give(width))
    contest.spread([() for _ in range(width)])
    return contest.grown


def beaten_by_twos(rule, width):
    """Such a book by two parents: a contest never needs more of them, nor more loads for it."""
    return beaten(rule, width)


def is_beaten(rule, width, thing):
    """Whether it is a book that beats the rule at this width."""
    check_width(width)
    return beats(rule, width, thing, most_loads(width))


def is_beaten_by_twos(rule, width, thing):
    """Whether it is a book that beats the rule at this width, and no kind has more than two parents."""
    check_width(width)
    if not isinstance(thing, Book) or not all([len(row) <= 2 for row in thing.parents]):
        return False
    return beats(rule, width, thing, most_loads_by_twos(width))


def beats(rule, width, thing, most):
    """Whether it is a book of at most so many kinds that beats the rule; only if it may be one the rule is called."""
    if not isinstance(thing, Book) or len(thing.parents) > most or widths(thing)[-1] > width:
        return False
    slots, at = led(rule, thing)
    return at is not None or len(set(slots)) >= slots_to_give(width)

import copy
import unittest
from random import Random

from latekinds.books import Book, beginning, beside, loaded
from latekinds.errors import KindError, NoKind, NoNumber
from latekinds.loader import (
    beaten, beaten_by_twos, first_fit, is_beaten, is_beaten_by_twos, led, most_loads, most_loads_by_twos, told_rule,
)
from latekinds.rule import placed
from latekinds.widths import width
from tests.helpers import (
    drawn_book, drawn_books, flat_book, grid_book, odd_numbers, odd_things, odd_tuples, row_book, small_books, walked,
)

FORK = Book(((), (), (0, 1), (0,)))


def right_slots(book, slots):
    """All slots that may be given to the last kind, by walking along the parents."""
    up = walked(book, len(slots))
    lasts = {slot: kind for kind, slot in enumerate(slots)}
    return [slot for slot in sorted(lasts) if lasts[slot] in up] + [len(lasts)]


def last_right(book, slots):
    return right_slots(book, slots)[-2:][0]


def newest(book, slots):
    return len(set(slots))


def drawn_rule(seed, new_too):
    """A rule that gives any right slot, drawn by a seed; a new one only where it may or must."""
    def rule(book, slots):
        choices = right_slots(book, slots)
        if not new_too and len(choices) > 1:
            choices.pop()
        return Random(f"{seed} {book.parents} {slots}").choice(choices)
    return rule


def wrong_at(kind, answer):
    """A rule like first_fit, but for one kind."""
    return lambda book, slots: answer if len(slots) == kind else first_fit(book, slots)


def by_looks(book, slots):
    """A rule that looks at the book and at the slots: the slot that a parent has, most often given so far."""
    choices = right_slots(book, slots)
    return max(choices, key=lambda slot: (slots.count(slot), -slot))


def many_rules():
    rules = [first_fit, told_rule, last_right, newest, by_looks]
    rules += [drawn_rule(seed, seed % 2 == 0) for seed in range(8)]
    rules += [wrong_at(kind, answer) for kind in (0, 1, 3, 6) for answer in (-1, 99, None, True, False, 0, 1, "0")]
    return rules


def no_answers(slots):
    """Things that are right for no kind behind these slots."""
    return [-1, -2, len(set(slots)) + 1, 10 ** 79, -(10 ** 79), True, False, None, "0", (0,), [0], {}, b"\x00"]


def beats(rule, wide, book, most, parents):
    """Whether the book is as 5.2 says, by led and width."""
    if len(book.parents) > most or width(book) > wide or any(len(row) > parents for row in book.parents):
        return False
    slots, at = led(rule, book)
    return at is not None or len(set(slots)) >= wide * (wide + 1) // 2


def next_path(path, choices):
    """The next choices behind these, None behind the last ones."""
    while path and path[-1] == len(choices[len(path) - 1]) - 1:
        path = path[:-1]
    return path[:-1] + [path[-1] + 1] if path else None


class Led(unittest.TestCase):
    def test_right_rules(self):
        for book in small_books()[::2] + drawn_books(10, 12) + [FORK, grid_book(4, 4), flat_book(7), row_book(7)]:
            for rule in (first_fit, told_rule, last_right, newest, by_looks, drawn_rule(3, True)):
                slots = ()
                for many in range(1, len(book.parents) + 1):
                    slots += (rule(beginning(book, many), slots),)
                self.assertEqual(led(rule, book), (slots, None))

    def test_each_answer_is_held_against_the_words(self):
        for seed, book in enumerate(drawn_books(6, 8, 2)):
            rule = drawn_rule(seed, True)
            slots, at = led(rule, book)
            self.assertIsNone(at)
            for kind in range(8):
                part = beginning(book, kind + 1)
                for answer in list(range(-2, 10)) + no_answers(slots[:kind]):
                    told = led(lambda now, given: answer if len(given) == kind else slots[len(given)], part)
                    if type(answer) is int and answer in right_slots(part, slots[:kind]):
                        self.assertEqual(told, (slots[:kind] + (answer,), None))
                    else:
                        self.assertEqual(told, (slots[:kind], kind))

    def test_odd_answers(self):
        for thing in odd_things() + odd_tuples() + odd_numbers():
            self.assertEqual(led(wrong_at(2, thing), FORK), ((0, 1), 2))
            self.assertEqual(led(wrong_at(0, thing), FORK), ((), 0))

    def test_flags_are_no_answers(self):
        self.assertEqual(led(lambda book, slots: False, FORK), ((), 0))
        self.assertEqual(led(wrong_at(1, True), FORK), ((0,), 1))

    def test_what_it_is_called_with(self):
        calls = []

        def rule(book, slots):
            calls.append((book, slots))
            return first_fit(book, slots)

        book = drawn_book(4, 9)
        slots, _ = led(rule, book)
        self.assertEqual([slots[:many] for many in range(9)], [given for _, given in calls])
        self.assertTrue(all(type(given) is tuple for _, given in calls))
        self.assertEqual([now.parents for now, _ in calls], [book.parents[:many + 1] for many in range(9)])
        self.assertTrue(all(now == Book(now.parents) for now, _ in calls))
        calls.clear()
        led(lambda book, slots: rule(book, slots) if len(slots) < 4 else -1, book)
        self.assertEqual(len(calls), 4)

    def test_no_kinds(self):
        self.assertEqual(led(self.fail, Book(())), ((), None))

    def test_errors_go_on(self):
        for error in (KeyError("x"), NoKind(), NoNumber(), ZeroDivisionError(), StopIteration(), IndexError()):
            def rule(book, slots):
                if len(slots) == 2:
                    raise error
                return first_fit(book, slots)
            for action in (lambda: led(rule, FORK), lambda: beaten(rule, 3), lambda: is_beaten(rule, 3, FORK),
                           lambda: beaten_by_twos(rule, 3), lambda: is_beaten_by_twos(rule, 3, FORK)):
                with self.assertRaises(type(error)) as caught:
                    action()
                self.assertIs(caught.exception, error)

    def test_great_books(self):
        for book in (row_book(400), flat_book(400), grid_book(20, 20)):
            self.assertEqual(led(told_rule, book), (placed(book), None))
        self.assertEqual(led(first_fit, flat_book(400)), (tuple(range(400)), None))


class Rules(unittest.TestCase):
    def test_first_fit(self):
        for book in small_books()[1:] + drawn_books(10, 12):
            for rule in (first_fit, newest, last_right, drawn_rule(9, True)):
                slots, _ = led(rule, beginning(book, len(book.parents) - 1))
                self.assertEqual(first_fit(book, slots), right_slots(book, slots)[0])
        self.assertEqual(led(first_fit, FORK), ((0, 1, 0, 2), None))
        self.assertEqual(first_fit(Book(((),)), ()), 0)

    def test_told_rule_whatever_the_slots(self):
        for book in small_books()[1:] + drawn_books(10, 12):
            many = len(book.parents)
            for slots in (placed(book)[:-1], (0,) * (many - 1), (), tuple(range(many - 1)), (9,) * many):
                self.assertEqual(told_rule(book, slots), placed(book)[-1])
                self.assertIs(type(told_rule(book, slots)), int)


class Loads(unittest.TestCase):
    def test_most_loads(self):
        row = [1, 1]
        while len(row) < 300:
            row.append(row[-1] + row[-2])
        seconds = row[2::2]
        self.assertEqual(seconds[:3], [2, 5, 13])
        self.assertEqual([most_loads(many) for many in range(1, 101)], [one - 1 for one in seconds[:100]])
        self.assertEqual([most_loads(many) for many in range(1, 7)], [1, 4, 12, 33, 88, 232])

    def test_most_loads_by_twos(self):
        loads = {}
        for wide in range(1, 101):
            loads[wide] = wide + sum((wide - m) * (m + loads[m]) for m in range(1, wide))
            self.assertEqual(most_loads_by_twos(wide), loads[wide])
        self.assertEqual([most_loads_by_twos(many) for many in range(1, 5)], [1, 4, 13, 38])

    def test_other_numbers(self):
        for action in (most_loads, most_loads_by_twos):
            for thing in odd_things() + odd_tuples() + odd_numbers() + [0, 101, True, False, (1,), "1"]:
                with self.assertRaises(NoNumber):
                    action(thing)


class Beaten(unittest.TestCase):
    def both(self, rule, wide):
        for make, judge, most, parents in (
            (beaten, is_beaten, most_loads(wide), 6), (beaten_by_twos, is_beaten_by_twos, most_loads_by_twos(wide), 2),
        ):
            book = make(rule, wide)
            self.assertIs(type(book), Book)
            self.assertTrue(beats(rule, wide, book, most, parents), (wide, book.parents))
            self.assertIs(judge(rule, wide, book), True)
            self.assertEqual(make(rule, wide), book)
            if rule in (first_fit, told_rule, newest):
                # A book that comes of made parents is the same as one that is constructed.
                self.assertEqual(vars(Book(book.parents)), vars(book))

    def test_many_rules_at_small_widths(self):
        for wide in (1, 2, 3, 4):
            for rule in many_rules():
                self.both(rule, wide)

    def test_many_rules_at_great_widths(self):
        for wide in (5, 6):
            for rule in (first_fit, told_rule, last_right, newest, by_looks, drawn_rule(1, False), drawn_rule(2, True),
                         wrong_at(40, 99), wrong_at(8, None)):
                self.both(rule, wide)

    def test_all_right_answers_gone_through(self):
        for wide, plays in ((1, 1), (2, 3), (3, 238)):
            found = 0
            path = []
            while path is not None:
                choices = []

                def rule(book, slots):
                    choices[len(slots):] = [right_slots(book, slots)]
                    at = path[len(slots)] if len(slots) < len(path) else 0
                    return choices[len(slots)][at]

                book = beaten(rule, wide)
                many = len(choices)
                self.assertTrue(beats(rule, wide, book, most_loads(wide), 2))
                found += 1
                path = next_path((path + [0] * many)[:many], choices)
            self.assertEqual(found, plays)

    def test_the_told_rule_needs_just_so_many(self):
        for wide in range(1, 7):
            book = beaten(told_rule, wide)
            self.assertEqual(len(set(placed(book))), wide * (wide + 1) // 2)
            self.assertEqual(width(book), wide)

    def test_other_numbers_ahead_of_all_else(self):
        def rule(book, slots):
            raise KindError("called")

        for thing in odd_things() + odd_tuples() + odd_numbers() + [0, 7, True, False, "1", (1,)]:
            for action in (lambda: beaten(rule, thing), lambda: beaten_by_twos(rule, thing),
                           lambda: is_beaten(rule, thing, FORK), lambda: is_beaten_by_twos(rule, thing, None)):
                with self.assertRaises(NoNumber):
                    action()


class Judging(unittest.TestCase):
    def test_example(self):
        self.assertIs(is_beaten(first_fit, 2, FORK), True)
        self.assertIs(is_beaten_by_twos(first_fit, 2, FORK), True)
        self.assertIs(is_beaten(newest, 2, FORK), True)
        self.assertIs(is_beaten(last_right, 2, FORK), False)
        self.assertIs(is_beaten(told_rule, 2, FORK), True)

    def test_a_kind_less(self):
        for rule in (first_fit, told_rule, last_right):
            for wide in (1, 2, 3, 4):
                book = beaten(rule, wide)
                less = beginning(book, len(book.parents) - 1)
                self.assertIs(is_beaten(rule, wide, less), False)
                self.assertIs(is_beaten_by_twos(rule, wide, less), False)

    def test_as_long_as_may_be_and_longer(self):
        for wide, most, judge in ((2, 4, is_beaten), (3, 12, is_beaten), (3, 13, is_beaten_by_twos)):
            book = beaten(newest, wide)
            while len(book.parents) < most:
                book = loaded(book, (len(book.parents) - 1,))
            self.assertIs(judge(newest, wide, book), True)
            self.assertIs(judge(newest, wide, loaded(book, (most - 1,))), False)

    def test_as_wide_as_may_be_and_wider(self):
        self.assertIs(is_beaten(newest, 3, flat_book(3)), False)
        self.assertIs(is_beaten(newest, 3, beside(flat_book(2), row_book(4))), True)
        self.assertIs(is_beaten(newest, 3, beside(flat_book(3), row_book(4))), False)
        self.assertIs(is_beaten(newest, 3, flat_book(6)), False)
        self.assertIs(is_beaten_by_twos(newest, 3, flat_book(6)), False)
        self.assertIs(is_beaten(wrong_at(0, None), 1, flat_book(1)), True)
        self.assertIs(is_beaten(wrong_at(0, None), 1, flat_book(2)), False)

    def test_a_third_parent(self):
        book = Book(((), (), (), (0, 1, 2), (3,), (3,)))
        self.assertIs(is_beaten(newest, 3, book), True)
        self.assertIs(is_beaten_by_twos(newest, 3, book), False)
        self.assertIs(is_beaten_by_twos(newest, 3, Book(((), (), (), (1, 2), (3,), (3,)))), True)

    def test_wrong_answers_beat_a_rule(self):
        for answer in (-1, 2, True, None, "0"):
            self.assertIs(is_beaten(wrong_at(1, answer), 6, row_book(2)), True)
            self.assertIs(is_beaten_by_twos(wrong_at(1, answer), 6, row_book(2)), True)
            self.assertIs(is_beaten(wrong_at(2, answer), 6, row_book(2)), False)
        self.assertIs(is_beaten(first_fit, 1, Book(())), False)
        self.assertIs(is_beaten(first_fit, 1, row_book(1)), True)

    def test_the_rule_is_not_called_for_what_cannot_beat_it(self):
        def rule(book, slots):
            raise KindError("called")

        for judge in (is_beaten, is_beaten_by_twos):
            for thing in odd_things() + odd_tuples() + odd_numbers() + [flat_book(4), row_book(14), FORK.parents]:
                if thing not in (Book(()), Book(((), (0,)))):
                    self.assertIs(judge(rule, 3, thing), False)

    def test_many_books_against_the_words(self):
        for rule in (first_fit, told_rule, newest, wrong_at(3, 0), wrong_at(2, None), drawn_rule(6, True)):
            for book in small_books() + drawn_books(10, 6, 2):
                for wide in (1, 2, 3):
                    right = beats(rule, wide, book, most_loads(wide), 6)
                    self.assertIs(is_beaten(rule, wide, book), right)
                    right = beats(rule, wide, book, most_loads_by_twos(wide), 2)
                    self.assertIs(is_beaten_by_twos(rule, wide, book), right)


class NothingChanges(unittest.TestCase):
    def test_arguments_stay(self):
        book = grid_book(3, 4)
        twin = copy.deepcopy(book)
        slots = placed(book)[:-1]
        led(first_fit, book), told_rule(book, slots), first_fit(book, slots), is_beaten(newest, 3, book)
        self.assertEqual(vars(book), vars(twin))


if __name__ == "__main__":
    unittest.main()

import unittest
from itertools import combinations, product
from math import factorial
from random import Random

from latekinds.books import Book, beside, loaded
from latekinds.errors import NoFields, NoLaying, NoNumber, TooMany
from latekinds.fields import (
    count_layings, first_hole, hues, is_hues, is_laying, is_odd_ring, laying, odd_ring, quarrels,
)
from tests.helpers import (
    all_books, drawn_book, drawn_books, flat_book, grid_book, odd_numbers, odd_things, odd_tuples, row_book, small_books,
    walked_all,
)

FORK = Book(((), (), (0, 1), (0,)))
THREE = Book(((), (), (), (0, 1), (0, 2), (1, 2)))


def quarrelling(many, edges):
    """So many kinds without parents, and one below each of these pairs; fields of the first ones alone."""
    book = Book(((),) * many + tuple(tuple(sorted(edge)) for edge in edges))
    return book, (1,) * many + (0,) * len(edges)


def ring_of(many):
    return quarrelling(many, [(at, (at + 1) % many) for at in range(many)])


def row_of(many):
    return quarrelling(many, [(at, at + 1) for at in range(many - 1)])


def lot_of_quarrels(many):
    """So many kinds each of which quarrels with each other one, by a row of kinds below ever more of them."""
    book = Book(((),) * many)
    last = 0
    for kind in range(1, many):
        book = loaded(book, (kind, last) if kind < last else (last, kind))
        last = len(book.parents) - 1
    return book, (1,) * many + (0,) * (many - 1)


def drawn_fields(draw, book, most):
    return tuple(draw.randint(0, most) for _ in book.parents)


def slow_quarrels(book, fields):
    ups = walked_all(book)
    found = []
    for a, b in combinations(range(len(ups)), 2):
        if fields[a] and fields[b] and a not in ups[b] and b not in ups[a]:
            if any(a in up and b in up for up in ups):
                found.append((a, b))
    return found


def slow_hole(book, places):
    """The first hole, counting the places of each object one by one."""
    for kind, up in enumerate(walked_all(book)):
        held = [place for brought in sorted(up) for place in places[brought]]
        for arm in range(6):
            indexes = [index for where, index in held if where == arm]
            for index in range(max(indexes, default=-1) + 1):
                if indexes.count(index) != 1:
                    return kind, arm, index
    return None


def all_full(book, fields, arms):
    """All full layings, kind by kind: an object has fields of its kind and of lesser ones alone."""
    ups = walked_all(book)
    found = [()]
    for kind, many in enumerate(fields):
        size = sum(fields[brought] for brought in ups[kind])
        longer = []
        for begun in found:
            for places in product(product(range(arms), range(size)), repeat=many):
                if is_full(begun + (places,), ups[kind]):
                    longer.append(begun + (places,))
        found = longer
    return found


def is_full(places, up):
    """Whether the object of a kind that is all these kinds has no hole and no place twice."""
    held = sorted(place for brought in up for place in places[brought])
    indexes = [[index for where, index in held if where == arm] for arm in range(6)]
    return all(row == list(range(len(row))) for row in indexes)


def hues_there(book, fields, arms):
    """Whether there are hues, by going through all of those that quarrel."""
    pairs = slow_quarrels(book, fields)
    kinds = sorted({kind for pair in pairs for kind in pair})

    def goes_on(told):
        if len(told) == len(kinds):
            return True
        barred = {told[a] for a in told if (a, kinds[len(told)]) in pairs}
        return any(goes_on({**told, kinds[len(told)]: hue}) for hue in range(arms) if hue not in barred)

    return goes_on({})


def pieces(book, fields):
    """The pieces in which the quarrelling kinds hang together."""
    found = []
    for pair in slow_quarrels(book, fields):
        hit = [piece for piece in found if piece & set(pair)]
        found = [piece for piece in found if piece not in hit] + [set(pair).union(*hit)]
    return found


class Case(unittest.TestCase):
    def right_ring(self, book, fields, ring):
        pairs = slow_quarrels(book, fields)
        self.assertIs(type(ring), list)
        self.assertGreaterEqual(len(ring), 3)
        self.assertEqual(len(ring) % 2, 1)
        for at, kind in enumerate(ring):
            self.assertIn(tuple(sorted((ring[at - 1], kind))), pairs)
        self.assertIs(is_odd_ring(book, fields, ring), True)

    def right_laying(self, book, fields, arms, places):
        self.assertIs(type(places), tuple)
        self.assertEqual([len(row) for row in places], list(fields))
        for row in places:
            self.assertIs(type(row), tuple)
            for arm, index in row:
                self.assertIn(arm, range(arms))
                self.assertGreaterEqual(index, 0)
        self.assertIsNone(slow_hole(book, places))
        self.assertIs(is_laying(book, fields, arms, places), True)
        self.assertIsNone(first_hole(book, fields, places))

    def held_against_search(self, book, fields):
        """All that is told of the quarrels of a book, for all numbers of arms."""
        pairs = slow_quarrels(book, fields)
        self.assertEqual(quarrels(book, fields), pairs)
        for arms in range(1, 7):
            there = hues_there(book, fields, arms)
            told = hues(book, fields, arms)
            places = laying(book, fields, arms)
            if not there:
                self.assertIsNone(told)
                self.assertIsNone(places)
                continue
            self.assertEqual((type(told), len(told)), (tuple, len(fields)))
            self.assertTrue(all(type(hue) is int and 0 <= hue < arms for hue in told))
            self.assertTrue(all(told[a] != told[b] for a, b in pairs))
            self.assertIs(is_hues(book, fields, arms, told), True)
            self.right_laying(book, fields, arms, places)
        ring = odd_ring(book, fields)
        self.assertIs(ring is None, hues_there(book, fields, 2))
        if ring is not None:
            self.right_ring(book, fields, ring)
            self.assertEqual(count_layings(book, fields), 0)


class Layings(Case):
    def test_judged_against_places_counted(self):
        draw = Random(1)
        seen = [0, 0]
        for book in small_books()[3::4] + drawn_books(60, 6, 2):
            for _ in range(12):
                fields = drawn_fields(draw, book, 2)
                arms = draw.randint(1, 6)
                full = laying(book, fields, arms)
                rows = [[(draw.randrange(arms), draw.randrange(3)) for _ in range(many)] for many in fields]
                if full is not None and draw.randrange(4):
                    rows = [list(row) for row in full]
                    for _ in range(draw.randrange(2)):
                        at = draw.randrange(len(rows)) if rows else 0
                        if rows and rows[at]:
                            arm, index = rows[at][-1]
                            rows[at][-1] = draw.choice([(draw.randrange(arms), index), (arm, draw.randrange(4))])
                places = tuple(tuple(row) for row in rows)
                hole = slow_hole(book, places)
                seen[hole is None] += 1
                self.assertEqual(first_hole(book, fields, places), hole)
                for many_arms in range(1, 7):
                    inside = all(arm < many_arms for row in places for arm, _ in row)
                    self.assertIs(is_laying(book, fields, many_arms, places), hole is None and inside)
        self.assertGreater(min(seen), 100)

    def test_known(self):
        fields = (1, 2, 0, 3)
        full = (((0, 0),), ((1, 1), (1, 0)), (), ((0, 1), (1, 0), (0, 2)))
        self.assertIs(is_laying(FORK, fields, 2, full), True)
        self.assertIs(is_laying(FORK, fields, 6, full), True)
        self.assertIs(is_laying(FORK, fields, 1, full), False)
        self.assertIsNone(first_hole(FORK, fields, full))
        # A place used twice: by a kind alone, by a forebear and an heir, by two forebears of one kind.
        self.assertEqual(first_hole(FORK, fields, (((0, 0),), ((1, 0), (1, 0)), (), full[3])), (1, 1, 0))
        self.assertEqual(first_hole(FORK, fields, (full[0], full[1], (), ((0, 1), (0, 2), (0, 0)))), (3, 0, 0))
        self.assertEqual(first_hole(FORK, fields, (((0, 0),), ((0, 0), (0, 1)), (), full[3])), (2, 0, 0))
        # A hole on an arm, also on the first place of it, behind an arm that is not used.
        self.assertEqual(first_hole(FORK, fields, (((0, 1),), full[1], (), full[3])), (0, 0, 0))
        self.assertEqual(first_hole(FORK, fields, (full[0], ((4, 0), (4, 2)), (), full[3])), (1, 4, 1))
        self.assertEqual(first_hole(FORK, fields, (full[0], full[1], (), ((5, 0), (5, 1), (3, 1)))), (3, 3, 0))
        self.assertEqual(first_hole(FORK, fields, (full[0], full[1], (), ((5, 0), (5, 1), (5, 3)))), (3, 5, 2))
        # The place that is used twice lies ahead of the hole, or behind it.
        self.assertEqual(first_hole(FORK, fields, (full[0], full[1], (), ((0, 1), (0, 1), (0, 3)))), (3, 0, 1))
        self.assertEqual(first_hole(FORK, fields, (full[0], full[1], (), ((0, 2), (0, 2), (0, 3)))), (3, 0, 1))
        self.assertEqual(first_hole(FORK, fields, (full[0], ((0, 10 ** 79), (0, 0)), (), full[3])), (1, 0, 1))

    def test_fields_of_none(self):
        for book in small_books():
            none = (0,) * len(book.parents)
            empty = ((),) * len(book.parents)
            self.assertEqual(quarrels(book, none), [])
            self.assertEqual(laying(book, none, 1), empty)
            self.assertIs(is_laying(book, none, 1, empty), True)
            self.assertIsNone(first_hole(book, none, empty))
            self.assertEqual(count_layings(book, none), 1)
            self.assertIsNone(odd_ring(book, none))

    def test_great_books(self):
        for book in (row_book(400), flat_book(400), grid_book(1, 300), beside(row_book(200), row_book(150))):
            many = len(book.parents)
            for fields in ((1,) * many, tuple(kind % 7 for kind in range(many))):
                self.right_laying(book, fields, 1, laying(book, fields, 1))
        places = laying(row_book(400), (6,) * 400, 1)
        self.assertEqual(places[399][5], (0, 2399))
        moved = places[:399] + (places[399][:5] + ((0, 2400),),)
        self.assertEqual(first_hole(row_book(400), (6,) * 400, moved), (399, 0, 2399))


class Hues(Case):
    def test_small_books(self):
        draw = Random(2)
        for book in all_books(4) + drawn_books(60, 7) + drawn_books(40, 9, 2) + [FORK, THREE]:
            for most in (1, 2):
                self.held_against_search(book, drawn_fields(draw, book, most))
            self.held_against_search(book, (1,) * len(book.parents))

    def test_drawn_quarrels(self):
        draw = Random(3)
        for many in range(2, 9):
            for _ in range(25):
                pairs = list(combinations(range(many), 2))
                edges = draw.sample(pairs, draw.randint(len(pairs) // 2, len(pairs)))
                book, fields = quarrelling(many, edges)
                self.held_against_search(book, tuple(draw.randint(1, 3) if kind else 0 for kind in fields))

    def test_there_is_a_full_laying_just_if_there_are_hues(self):
        draw = Random(4)
        seen = [0, 0]
        for book in drawn_books(60, 5) + [THREE, FORK]:
            for _ in range(4):
                fields = drawn_fields(draw, book, 1)
                for arms in (1, 2):
                    there = bool(all_full(book, fields, arms))
                    seen[there] += 1
                    self.assertIs(laying(book, fields, arms) is not None, there)
                    self.assertIs(hues(book, fields, arms) is not None, there)
        self.assertGreater(min(seen), 20)

    def test_rings_rows_and_lots_of_forty(self):
        for many in (3, 4, 5, 6, 7, 8, 39, 40):
            book, fields = ring_of(many)
            for arms in range(1, 7):
                self.assertIs(hues(book, fields, arms) is not None, arms >= (3 if many & 1 else 2))
            self.assertIs(odd_ring(book, fields) is not None, many & 1 == 1)
            book, fields = lot_of_quarrels(many)
            self.assertEqual(quarrels(book, fields), list(combinations(range(many), 2)))
            for arms in range(1, 7):
                told = hues(book, fields, arms)
                self.assertIs(told is not None, arms >= many)
                self.assertIs(laying(book, fields, arms) is not None, arms >= many)
            self.right_ring(book, fields, odd_ring(book, fields))
        for many in range(2, 41):
            book, fields = row_of(many)
            self.assertIsNone(hues(book, fields, 1))
            self.assertIs(is_hues(book, fields, 2, hues(book, fields, 2)), True)
            self.assertIsNone(odd_ring(book, fields))
            self.right_laying(book, fields, 2, laying(book, fields, 2))

    def test_forty_with_hues_that_are_hard_to_find(self):
        draw = Random(5)
        for arms, many_pairs in ((3, 85), (3, 92), (3, 100), (4, 145), (4, 155), (5, 205), (5, 215), (6, 265), (6, 275)):
            for _ in range(6):
                hidden = [draw.randrange(arms) for _ in range(40)]
                pairs = [(a, b) for a, b in combinations(range(40), 2) if hidden[a] != hidden[b]]
                book, fields = quarrelling(40, draw.sample(pairs, many_pairs))
                told = hues(book, fields, arms)
                self.assertIsNotNone(told)
                self.assertIs(is_hues(book, fields, arms, told), True)
                self.assertIs(is_laying(book, fields, arms, laying(book, fields, arms)), True)

    def test_as_many_pairs_as_just_bar_the_hues(self):
        draw = Random(9)
        seen = [0, 0]
        for many, arms, many_pairs in ((12, 3, 25), (14, 3, 29), (16, 3, 35), (12, 4, 36), (14, 4, 45), (13, 5, 52)):
            for _ in range(25):
                book, fields = quarrelling(many, draw.sample(list(combinations(range(many), 2)), many_pairs))
                there = hues_there(book, fields, arms)
                seen[there] += 1
                told = hues(book, fields, arms)
                self.assertIs(told is not None, there)
                if there:
                    self.assertIs(is_hues(book, fields, arms, told), True)
        self.assertGreater(min(seen), 30)

    def test_those_without_triples_that_need_many(self):
        pairs = [(at, (at + 1) % 5) for at in range(5)]
        for many, needed in ((5, 3), (11, 4), (23, 5)):
            book, fields = quarrelling(many, pairs)
            self.assertIsNone(hues(book, fields, needed - 1))
            self.assertIs(is_hues(book, fields, needed, hues(book, fields, needed)), True)
            above = [(a, many + b) for a, b in pairs] + [(b, many + a) for a, b in pairs]
            pairs = pairs + above + [(many + at, 2 * many) for at in range(many)]

    def test_a_hopeless_piece_beside_one_of_many_hues(self):
        draw = Random(6)
        needy, _ = quarrelling(4, list(combinations(range(4), 2)))
        for _ in range(5):
            two_sided = [(a, b) for a in range(18) for b in range(18, 36) if draw.randrange(3) == 0]
            wide, _ = quarrelling(36, two_sided)
            book = beside(wide, needy)
            fields = tuple(0 if parents else 1 for parents in book.parents)
            self.assertIsNone(hues(book, fields, 3))
            self.assertIs(is_hues(book, fields, 4, hues(book, fields, 4)), True)

    def test_too_many(self):
        for book, fields in (ring_of(41), row_of(41), lot_of_quarrels(41), ring_of(200)):
            for arms in range(1, 7):
                for action in (hues, laying):
                    with self.assertRaises(TooMany) as caught:
                        action(book, fields, arms)
                    self.assertEqual(caught.exception.most, 40)
            for arms in (0, 7, True, None):
                self.assertRaises(NoNumber, hues, book, fields, arms)
                self.assertRaises(NoNumber, laying, book, fields, arms)
            self.assertRaises(NoFields, hues, book, fields[:-1], 0)
            told = tuple(kind % 2 for kind in range(len(fields)))
            self.assertIs(is_hues(book, fields, 2, told), not any(told[a] == told[b] for a, b in quarrels(book, fields)))
        # Others that do not quarrel are not counted.
        book, fields = row_of(40)
        wide = beside(book, flat_book(200))
        self.right_laying(wide, fields + (3,) * 200, 2, laying(wide, fields + (3,) * 200, 2))

    def test_is_hues(self):
        fields = (1, 2, 0, 3)
        for told in product(range(2), repeat=4):
            self.assertIs(is_hues(FORK, fields, 2, told), told[0] != told[1])
            self.assertIs(is_hues(FORK, fields, 1, told), False)
        for thing in ((0, 2, 0, 0), (0, -1, 0, 0), (0, 1, 0), (0, 1, 0, 0, 0), [0, 1, 0, 0], (0, True, 0, 0),
                      (False, 1, 0, 0), (0, 1, None, 0), (0, 1, 0, "0"), "0100", b"\x00\x01\x00\x00"):
            self.assertIs(is_hues(FORK, fields, 2, thing), False)
        self.assertIs(is_hues(FORK, fields, 3, (0, 2, 0, 0)), True)
        self.assertIs(is_hues(Book(()), (), 1, ()), True)


class Rings(Case):
    def test_cut_even_single_and_with_a_kind_other(self):
        book, fields = ring_of(5)
        ring = odd_ring(book, fields)
        self.assertEqual(sorted(ring), [0, 1, 2, 3, 4])
        self.assertIs(is_odd_ring(book, fields, ring), True)
        self.assertIs(is_odd_ring(book, fields, ring[::-1]), True)
        self.assertIs(is_odd_ring(book, fields, ring[2:] + ring[:2]), True)
        # One may stand there again.
        self.assertIs(is_odd_ring(book, fields, ring + ring[-1:] + ring[-2:-1]), False)
        self.assertIs(is_odd_ring(book, fields, ring + [ring[0], ring[-1]]), True)
        self.assertIs(is_odd_ring(book, fields, [0, 1, 2, 3, 4, 0, 1, 0, 4]), True)
        for thing in (ring[:-1], ring[:3], ring[:1], [], ring * 2, tuple(ring), ring + [ring[0]], [0, 0, 0], [0, 1, 0],
                      [0], [0, 1], ring[:4] + [5], ring[:4] + [-1], ring[:4] + [10], [1, 0, 2, 3, 4],
                      ring[:4] + [None], [str(kind) for kind in ring], {0: 0, 1: 1, 2: 2}, "012"):
            self.assertIs(is_odd_ring(book, fields, thing), False)
        self.assertIs(is_odd_ring(*ring_of(4), [0, 1, 2, 3]), False)
        book, fields = ring_of(3)
        for kind in range(len(fields)):
            for at in range(3):
                thing = [0, 1, 2]
                thing[at] = kind
                self.assertIs(is_odd_ring(book, fields, thing), sorted(thing) == [0, 1, 2])
                thing[at] = kind == 1
                self.assertIs(is_odd_ring(book, fields, thing), False)
        self.assertIs(is_odd_ring(book, (1, 1, 0, 0, 0, 0), [0, 1, 2]), False)

    def test_great_rings(self):
        for many in (41, 101, 199):
            book, fields = ring_of(many)
            self.right_ring(book, fields, odd_ring(book, fields))
            self.assertIsNone(odd_ring(*ring_of(many - 1)))
            self.assertIsNone(odd_ring(book, fields[1:many] + (0,) * (many + 1)))
        book = drawn_book(9, 300, 2)
        ring = odd_ring(book, (1,) * 300)
        self.right_ring(book, (1,) * 300, ring)
        self.assertIsNone(odd_ring(flat_book(400), (6,) * 400))


class Counts(Case):
    def test_all_full_layings_gone_through(self):
        draw = Random(7)
        seen = set()
        for book in drawn_books(50, 4) + drawn_books(30, 5, 2) + [FORK]:
            for _ in range(3):
                fields = drawn_fields(draw, book, 2)
                while sum(fields) > 4:
                    fields = drawn_fields(draw, book, 2)
                found = all_full(book, fields, 2)
                self.assertEqual(len(found), len(set(found)))
                self.assertEqual(count_layings(book, fields), len(found))
                seen.add(len(found))
        self.assertGreater(len(seen), 8)
        self.assertEqual(len(all_full(THREE, (1, 1, 1, 0, 0, 0), 2)), 0)
        self.assertEqual(count_layings(THREE, (1, 1, 1, 0, 0, 0)), 0)

    def test_by_the_eleventh_fact(self):
        draw = Random(8)
        books = [drawn_book(seed, 60, 1 + seed % 2) for seed in range(20)] + [grid_book(2, 100), flat_book(400)]
        for book in books + [row_of(90)[0], ring_of(90)[0], ring_of(91)[0], beside(row_of(50)[0], ring_of(30)[0])]:
            for most in (1, 6):
                fields = tuple(draw.randint(0, most) if draw.randrange(3) else 0 for _ in book.parents)
                if hues_there_by_sides(book, fields):
                    quarrelling_kinds = {kind for pair in slow_quarrels(book, fields) for kind in pair}
                    wanted = 2 ** len(pieces(book, fields))
                    for kind, many in enumerate(fields):
                        wanted *= factorial(many if kind in quarrelling_kinds else many + 1)
                    self.assertEqual(count_layings(book, fields), wanted)
                    self.assertIsNone(odd_ring(book, fields))
                else:
                    self.assertEqual(count_layings(book, fields), 0)
                    self.right_ring(book, fields, odd_ring(book, fields))

    def test_known(self):
        self.assertEqual(count_layings(FORK, (1, 2, 0, 3)), 96)
        self.assertEqual(count_layings(Book(()), ()), 1)
        self.assertEqual(count_layings(Book(((),)), (6,)), 5040)
        self.assertEqual(count_layings(flat_book(400), (6,) * 400), 5040 ** 400)
        self.assertEqual(count_layings(*row_of(3)), 2)
        self.assertEqual(count_layings(beside(row_of(3)[0], row_of(2)[0]), (2, 2, 2, 0, 0, 1, 1, 3)), 2 ** 2 * 8 * 24)


def hues_there_by_sides(book, fields):
    """Whether two sides are enough, side by side with each piece gone through once."""
    near = {}
    for a, b in slow_quarrels(book, fields):
        near.setdefault(a, []).append(b)
        near.setdefault(b, []).append(a)
    side = {}
    for first in near:
        pending = [] if first in side else [first]
        side.setdefault(first, 0)
        while pending:
            kind = pending.pop()
            for other in near[kind]:
                if other not in side:
                    side[other] = 1 - side[kind]
                    pending.append(other)
                elif side[other] == side[kind]:
                    return False
    return True


def no_fields(many):
    """Things that are no fields of so many kinds."""
    things = [thing for thing in odd_things() + odd_tuples() + odd_numbers() if thing != (0,) * many]
    for item in (True, False, -1, 7, 10 ** 79, None, "0", (0,), [0], Book(())):
        things += [(0,) * (many - 1) + (item,), (item,) + (0,) * (many - 1), (item,) * many]
    return things + [(0,) * (many - 1), (0,) * (many + 1), [0] * many, "0" * many, {at: 0 for at in range(many)}]


class Wrong(Case):
    def test_no_fields_first(self):
        for thing in no_fields(4):
            for action in (
                lambda: quarrels(FORK, thing), lambda: hues(FORK, thing, 0), lambda: laying(FORK, thing, None),
                lambda: is_hues(FORK, thing, 0, None), lambda: is_laying(FORK, thing, True, None),
                lambda: first_hole(FORK, thing, None), lambda: odd_ring(FORK, thing), lambda: hues(FORK, thing, 2),
                lambda: is_odd_ring(FORK, thing, None), lambda: count_layings(FORK, thing), lambda: laying(FORK, thing, 2),
            ):
                with self.assertRaises(NoFields):
                    action()

    def test_then_no_number(self):
        fields = (1, 2, 0, 3)
        for arms in odd_things() + odd_tuples() + odd_numbers() + [0, 7, 10 ** 79, -1, True, False, (2,), "2"]:
            for action in (
                lambda: hues(FORK, fields, arms), lambda: laying(FORK, fields, arms),
                lambda: is_hues(FORK, fields, arms, None), lambda: is_laying(FORK, fields, arms, None),
            ):
                with self.assertRaises(NoNumber):
                    action()

    def test_what_is_judged_may_be_anything(self):
        fields = (1, 2, 0, 3)
        things = odd_things() + odd_tuples() + odd_numbers() + [0, 1]
        for thing in things:
            self.assertIs(is_laying(FORK, fields, 2, thing), False)
            self.assertIs(is_hues(FORK, fields, 2, thing), False)
            self.assertIs(is_odd_ring(FORK, fields, thing), False)
            self.assertIs(is_odd_ring(FORK, fields, [thing] * 3), False)
            with self.assertRaises(NoLaying):
                first_hole(FORK, fields, thing)

    def test_no_laying(self):
        fields = (1, 2, 0, 3)
        full = laying(FORK, fields, 2)
        items = [(6, 0), (0, -1), (-1, 0), (True, 0), (0, False), (0,), (0, 0, 0), [0, 0], 0, "00", None, (0, None),
                 ((0,), 0), (0, "0"), (10 ** 79, 0), {0: 0, 1: 0}, b"\x00\x00", Book(()), ()]
        things = [(full[0], full[1], (), full[3][:2] + (item,)) for item in items]
        things += [((item,), full[1], (), full[3]) for item in items]
        things += [(item,) + full[1:] for item in ([(0, 0)], (0, 0), ((0, 0), (0, 1)), (), 0, None, "a")]
        things += [full[:3], full + ((),), list(full), full[:2] + (((2, 0),),) + full[3:], full[0], {0: full}]
        for thing in things:
            with self.assertRaises(NoLaying):
                first_hole(FORK, fields, thing)
            for arms in range(1, 7):
                self.assertIs(is_laying(FORK, fields, arms, thing), False)
        self.assertEqual(first_hole(FORK, fields, (((5, 10 ** 79),),) + full[1:]), (0, 5, 0))

    def test_nothing_changes_and_lists_are_new(self):
        book, fields = ring_of(5)
        first, second = quarrels(book, fields), quarrels(book, fields)
        first.append(0)
        self.assertEqual(second, quarrels(book, fields))
        ring, again = odd_ring(book, fields), odd_ring(book, fields)
        ring.clear()
        self.assertEqual(again, odd_ring(book, fields))
        thing = list(again)
        is_odd_ring(book, fields, thing)
        self.assertEqual(thing, again)
        for arms in (3, 4):
            self.assertEqual(hues(book, fields, arms), hues(book, fields, arms))
            self.assertEqual(laying(book, fields, arms), laying(book, fields, arms))


if __name__ == "__main__":
    unittest.main()

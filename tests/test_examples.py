import unittest

from latekinds.books import Book, heirs, is_a, plain
from latekinds.clauses import never_met, parting
from latekinds.fields import count_layings, laying, quarrels
from latekinds.loader import first_fit, is_beaten, led, most_loads
from latekinds.machines import laid
from latekinds.names import tree_names, web_names, web_says
from latekinds.numbers import is_two_orders, two_orders
from latekinds.orders import tree_placed
from latekinds.programs import run
from latekinds.rule import groups, placed, told_scheme
from latekinds.schemes import first_wrong, says, scheme_of
from latekinds.telling import common, meet
from latekinds.texts import book_text
from latekinds.widths import widest, width, widths

FORK = Book(((), (), (0, 1), (0,)))
THREE = Book(((), (), (), (0, 1), (0, 2), (1, 2)))


class Examples(unittest.TestCase):
    def test_e01(self):
        self.assertIs(is_a(FORK, 2, 1), True)
        self.assertEqual(heirs(FORK, 0), (2, 3))
        self.assertIs(plain(Book(((), (0,), (0, 1)))) == Book(((), (0,), (1,))), True)

    def test_e02(self):
        self.assertEqual(width(THREE), 3)
        self.assertEqual(widest(FORK), (0, 1))
        self.assertEqual(widths(FORK), (0, 1, 2, 2, 2))

    def test_e03(self):
        self.assertIs(says(((0, 1, (1,)), (0, 2, (2,))), 1, 0), True)
        self.assertIsNone(first_wrong(FORK, scheme_of(FORK, ((0, 2), (1,), (3,)))))

    def test_e04(self):
        self.assertEqual(placed(FORK), (0, 1, 2, 0))
        self.assertEqual(groups(FORK), ((1,), (0, 2)))
        self.assertEqual(told_scheme(FORK)[2], (2, 1, (1, 1, 1)))

    def test_e05(self):
        self.assertEqual(led(first_fit, FORK), ((0, 1, 0, 2), None))
        self.assertEqual(most_loads(5), 88)
        self.assertIs(is_beaten(first_fit, 2, FORK), True)

    def test_e06(self):
        self.assertEqual(tree_placed(Book(((), (0,), (0,), (1,)))), (0, 0, 1, 0))

    def test_e07(self):
        self.assertEqual(web_names(FORK), ("", "0", "11", "100"))
        self.assertIs(web_says("11", "0"), True)
        self.assertEqual(tree_names(Book(((), (0,), (0,)))), ("", "0", "10"))

    def test_e08(self):
        self.assertIs(is_two_orders(FORK, ((0, 3, 1, 2), (1, 0, 2, 3))), True)
        self.assertIsNone(two_orders(THREE))

    def test_e09(self):
        self.assertEqual(meet(told_scheme(FORK), 2, 3), (1, 0, 0))
        self.assertEqual(common(told_scheme(FORK), 2, 3), (0,))
        self.assertEqual(never_met(FORK, ((0, 5), (2, 6), (1, 7))), (1,))
        self.assertEqual(parting(FORK, ((0, 5), (1, 7)), ((1, 7), (0, 5))), (2,))

    def test_e10(self):
        self.assertEqual(quarrels(THREE, (1, 1, 1, 0, 0, 0)), [(0, 1), (0, 2), (1, 2)])
        self.assertIsNone(laying(THREE, (1, 1, 1, 0, 0, 0), 2))
        self.assertEqual(count_layings(FORK, (1, 2, 0, 3)), 96)

    def test_e11(self):
        self.assertEqual(book_text(FORK), "-\n-\n0 1\n0\n")

    def test_e12(self):
        program = (
            ("load", 0, (), 1), ("load", 1, (0,), 0), ("make", 2, 1), ("set", 3, 7), ("write", 2, 0, 0, 3),
            ("read", 4, 2, 0, 0), ("show", 4), ("is", 2, 0, 9), ("show", 0),
        )
        self.assertEqual(run(program, 50), ([7], ("end",)))
        self.assertEqual(laid(FORK, (1, 2, 0, 3)), (((0, 0),), ((1, 0), (1, 1)), (), ((2, 0), (2, 1), (2, 2))))


if __name__ == "__main__":
    unittest.main()

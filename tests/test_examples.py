import unittest

from latekinds.books import Book, heirs, is_a, plain
from latekinds.widths import widest, width, widths

FORK = Book(((), (), (0, 1), (0,)))
THREE = Book(((), (), (), (0, 1), (0, 2), (1, 2)))


class Examples(unittest.TestCase):
    def test_e01(self):
        self.assertIs(is_a(FORK, 2, 1), True)
        self.assertEqual(heirs(FORK, 0), (2, 3))
        self.assertIs(plain(Book(((), (0,), (0, 1)))) == Book(((), (0,), (1,))), True)

    def test_e02(self):
        self.assertEqual(width(THREE), 3)
        self.assertEqual(widest(FORK), (0, 1))
        self.assertEqual(widths(FORK), (0, 1, 2, 2, 2))


if __name__ == "__main__":
    unittest.main()

import unittest

from beltgarth.worths import worth

TOP = 2 ** 64 - 1
SOME = [0, 1, 2, 3, 7, 2 ** 31, 2 ** 32 - 1, 2 ** 32, 2 ** 32 + 1, 2 ** 63 - 1, 2 ** 63, 2 ** 63 + 1, TOP - 1, TOP]


class WorthTest(unittest.TestCase):
    def tells(self, s, cases):
        for one, other, told in cases:
            with self.subTest(s=s, one=one, other=other):
                self.assertEqual(worth(s, one, other), told)

    def test_plus(self):
        self.tells("+", [(0, 0, 0), (0, 1, 1), (2, 3, 5), (TOP, 0, TOP), (0, TOP, TOP), (TOP, 1, 0), (1, TOP, 0),
                         (TOP, TOP, TOP - 1), (2 ** 63, 2 ** 63, 0), (2 ** 63, 2 ** 63 - 1, TOP)])

    def test_minus(self):
        self.tells("-", [(0, 0, 0), (1, 0, 1), (0, 1, TOP), (5, 3, 2), (3, 5, TOP - 1), (TOP, TOP, 0), (TOP, 0, TOP),
                         (0, TOP, 1), (1, TOP, 2), (2 ** 63, 2 ** 63 + 1, TOP)])

    def test_times(self):
        self.tells("*", [(0, 0, 0), (0, TOP, 0), (1, TOP, TOP), (6, 7, 42), (TOP, TOP, 1), (2, TOP, TOP - 1),
                         (2 ** 32, 2 ** 32, 0), (2 ** 32 + 1, 2 ** 32, 2 ** 32), (2 ** 63, 2, 0), (2 ** 63, 3, 2 ** 63)])

    def test_less(self):
        self.tells("<", [(0, 0, 0), (0, 1, 1), (1, 0, 0), (3, 5, 1), (5, 3, 0), (5, 5, 0), (TOP, TOP, 0), (0, TOP, 1),
                         (TOP, 0, 0), (TOP - 1, TOP, 1), (2 ** 63, 1, 0), (2 ** 63 - 1, 2 ** 63, 1)])

    def test_alike(self):
        self.tells("=", [(0, 0, 1), (0, 1, 0), (1, 0, 0), (5, 5, 1), (5, 6, 0), (TOP, TOP, 1), (0, TOP, 0),
                         (TOP, TOP - 1, 0), (2 ** 63, 2 ** 63, 1)])

    def test_all_pairs_of_some_worths(self):
        for one in SOME:
            for other in SOME:
                wide = {"+": one + other, "-": one - other, "*": one * other, "<": int(one < other), "=": int(one == other)}
                for s in wide:
                    told = worth(s, one, other)
                    self.assertEqual(told, wide[s] - (wide[s] // 2 ** 64) * 2 ** 64, (s, one, other))
                    self.assertIs(type(told), int)
                    self.assertTrue(0 <= told <= TOP)
                    self.assertEqual(worth(s, one, other), told)


if __name__ == "__main__":
    unittest.main()

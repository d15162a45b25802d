import copy
import itertools
import unittest

from beltgarth.papers import behind, weaker


class WeakerTest(unittest.TestCase):
    def says(self, one, other, told):
        self.assertIs(weaker(one, other), told, (one, other))
        self.assertIs(weaker(one, other), told, (one, other))

    def test_the_same(self):
        for names in [(None,), ("a",), ("a", "b"), ("a", None, "b"), (None, None), ("a", "a")]:
            self.says(names, names, True)

    def test_none_in_one_is_weaker(self):
        self.says((None,), ("a",), True)
        self.says((None, "b"), ("a", "b"), True)
        self.says(("a", None), ("a", "b"), True)
        self.says((None, None, None), ("a", "b", "c"), True)

    def test_none_in_the_other_is_not(self):
        self.says(("a",), (None,), False)
        self.says(("a", "b"), (None, "b"), False)
        self.says(("a", "b"), ("a", None), False)
        self.says((None, "b"), ("a", None), False)

    def test_other_names(self):
        self.says(("a",), ("b",), False)
        self.says(("a", "b"), ("b", "a"), False)
        self.says(("a", "b", "c"), ("a", "b", "d"), False)
        self.says(("a", "b", "c"), ("d", "b", "c"), False)
        self.says(("a", None, "c"), ("a", "b", "b"), False)
        self.says(("a",), ("aa",), False)

    def test_a_name_that_lies_elsewhere_there(self):
        self.says((None, "a"), ("a", None), False)
        self.says(("a", None), (None, "a"), False)

    def test_a_name_twice(self):
        self.says(("a", None), ("a", "a"), True)
        self.says((None, "a"), ("a", "a"), True)
        self.says(("a", "a"), ("a", None), False)

    def test_sixteen_places(self):
        names = tuple("abcdefghijklmnop")
        for n in range(16):
            self.says(names[:n] + (None,) + names[n + 1:], names, True)
            self.says(names, names[:n] + (None,) + names[n + 1:], False)
            self.says(names[:n] + ("z",) + names[n + 1:], names, False)

    def test_small_ones_of_all_forms(self):
        for one in itertools.product((None, "a", "b"), repeat=3):
            for other in itertools.product((None, "a", "b"), repeat=3):
                told = not [n for n in range(3) if one[n] is not None and one[n] != other[n]]
                self.says(one, other, told)


class BehindTest(unittest.TestCase):
    def lies(self, row, names, x, told):
        before = copy.deepcopy((row, names, x))
        found = behind(row, names, x)
        self.assertEqual(found, told, (row, names, x))
        self.assertIs(type(found), tuple)
        self.assertEqual(behind(row, names, x), told)
        self.assertEqual((row, names, x), before)

    def test_works_that_set(self):
        for row in (("num", 5), ("op", "+", 0, 1), ("op", "<", 2, 2), ("call", 1, (0, 1)), ("call", 0, ())):
            with self.subTest(row=row):
                self.lies(row, ("a", "b", "c"), "x", ("x", "a", "b"))
                self.lies(row, ("a", None, "c"), "x", ("x", "a", None))
                self.lies(row, (None, None, None), "x", ("x", None, None))

    def test_a_name_that_lay_there_before(self):
        for row in (("num", 5), ("op", "+", 0, 1), ("call", 1, (0, 1))):
            self.lies(row, ("x", "b", "c"), "x", ("x", None, "b"))
            self.lies(row, ("a", "x", "c"), "x", ("x", "a", None))
            self.lies(row, ("a", "b", "x"), "x", ("x", "a", "b"))
            self.lies(row, ("x", "x", "x"), "x", ("x", None, None))
            self.lies(row, ("x", "a", "x", "a", "b"), "x", ("x", None, "a", None, "a"))
            self.lies(row, ("xx", "ax"), "x", ("x", "xx"))

    def test_one_place(self):
        for row in (("num", 5), ("op", "+", 0, 0), ("call", 1, (0,))):
            self.lies(row, ("a",), "x", ("x",))
            self.lies(row, ("x",), "x", ("x",))
            self.lies(row, (None,), "x", ("x",))
        self.lies(("keep", 0), ("a",), None, ("a",))
        self.lies(("keep", 0), (None,), None, (None,))
        for row in (("say", 0), ("test", 0, 0), ("jump", 0)):
            self.lies(row, ("a",), None, ("a",))

    def test_keep(self):
        self.lies(("keep", 0), ("a", "b", "c"), None, ("a", "a", "b"))
        self.lies(("keep", 1), ("a", "b", "c"), None, ("b", "a", "b"))
        self.lies(("keep", 2), ("a", "b", "c"), None, ("c", "a", "b"))
        self.lies(("keep", 2), ("a", "b", "c", "d"), None, ("c", "a", "b", "c"))

    def test_keep_of_a_place_that_has_none(self):
        self.lies(("keep", 1), ("a", None, "c"), None, (None, "a", None))
        self.lies(("keep", 2), ("a", "b", None), None, (None, "a", "b"))

    def test_keep_leaves_what_the_plain_row_would_set(self):
        """A keep may stand ahead of a row that sets x: what is x until then stays x."""
        self.lies(("keep", 1), ("x", "a", "b"), "x", ("a", "x", "a"))
        self.lies(("keep", 0), ("x", "a", "b"), "x", ("x", "x", "a"))

    def test_say_test_and_jump_leave_the_names(self):
        for names in [("a", "b", "c"), ("a", None, "a"), (None, None, None)]:
            for row in (("say", 0), ("say", 2), ("test", 1, 5), ("jump", 7)):
                self.lies(row, names, None, names)
        self.lies(("jump", 3), ("x", "a"), "x", ("x", "a"))

    def test_behind_a_give_nothing_comes_in(self):
        self.lies(("give", 1), ("a", "b"), None, ("a", "b"))

    def test_sixteen_places(self):
        names = tuple("abcdefghijklmnop")
        self.lies(("num", 1), names, "x", ("x",) + names[:15])
        self.lies(("num", 1), names, "f", ("f",) + names[:5] + (None,) + names[6:15])
        self.lies(("num", 1), names, "p", ("p",) + names[:15])
        for i in range(16):
            self.lies(("keep", i), names, None, (names[i],) + names[:15])


if __name__ == "__main__":
    unittest.main()

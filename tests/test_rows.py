import copy
import unittest

from beltgarth.rows import come_to, leads, reads, sets, stands

NUM = ("num", "x", 5)
SAY = ("say", "x")
GIVE = ("give", "x")

# One row of each word, with what it reads, what it sets, and what comes next where it is row 2.
EACH_WORD = [
    (("num", "x", 5), (), "x", (3,)),
    (("op", "x", "-", "a", "b"), ("a", "b"), "x", (3,)),
    (("call", "x", 1, ("c", "a", "b")), ("c", "a", "b"), "x", (3,)),
    (("say", "a"), ("a",), None, (3,)),
    (("jump", 6), (), None, (6,)),
    (("test", "a", 6), ("a",), None, (3, 6)),
    (("give", "a"), ("a",), None, ()),
]


class ReadsAndSetsTest(unittest.TestCase):
    def test_each_word(self):
        for row, names, name, behind in EACH_WORD:
            with self.subTest(row=row):
                self.assertEqual(reads(row), names)
                self.assertEqual(sets(row), name)

    def test_reads_keep_their_order(self):
        self.assertEqual(reads(("op", "x", "<", "b", "a")), ("b", "a"))
        self.assertEqual(reads(("call", "x", 0, ("d", "a", "c", "b"))), ("d", "a", "c", "b"))

    def test_each_sign_of_an_op(self):
        for sign in "+-*<=":
            self.assertEqual(reads(("op", "x", sign, "a", "b")), ("a", "b"))
            self.assertEqual(sets(("op", "x", sign, "a", "b")), "x")

    def test_a_name_read_twice_is_told_twice(self):
        self.assertEqual(reads(("op", "x", "+", "a", "a")), ("a", "a"))
        self.assertEqual(reads(("call", "x", 0, ("a", "b", "a"))), ("a", "b", "a"))

    def test_a_call_without_args_reads_nothing(self):
        self.assertEqual(reads(("call", "x", 0, ())), ())
        self.assertEqual(sets(("call", "x", 0, ())), "x")

    def test_a_name_read_and_set_by_one_row(self):
        self.assertEqual(reads(("op", "x", "*", "x", "x")), ("x", "x"))
        self.assertEqual(sets(("op", "x", "*", "x", "x")), "x")

    def test_names_that_are_like_signs_of_rows(self):
        self.assertEqual(reads(("op", "num", "=", "op", "num")), ("op", "num"))
        self.assertEqual(reads(("say", "num")), ("num",))
        self.assertEqual(sets(("num", "op", 0)), "op")
        self.assertIsNone(sets(("say", "num")))

    def test_tuples_are_told(self):
        for row, names, name, behind in EACH_WORD:
            self.assertIsInstance(reads(row), tuple)


class LeadsTest(unittest.TestCase):
    def rows(self, row):
        return (NUM, NUM, row, NUM, NUM, NUM, GIVE)

    def test_each_word(self):
        for row, names, name, behind in EACH_WORD:
            with self.subTest(row=row):
                told = leads(self.rows(row), 2)
                self.assertEqual(told, behind)
                self.assertIsInstance(told, tuple)

    def test_rows_in_a_list(self):
        for row, names, name, behind in EACH_WORD:
            with self.subTest(row=row):
                told = leads(list(self.rows(row)), 2)
                self.assertEqual(told, behind)
                self.assertIsInstance(told, tuple)

    def test_a_test_tells_the_next_row_first(self):
        self.assertEqual(leads((NUM, ("test", "x", 0), GIVE), 1), (2, 0))

    def test_a_test_to_the_next_row_tells_it_twice(self):
        self.assertEqual(leads((NUM, ("test", "x", 2), GIVE), 1), (2, 2))

    def test_a_jump_is_not_followed(self):
        rows = (("jump", 1), ("jump", 2), ("test", "x", 0), GIVE)
        self.assertEqual(leads(rows, 0), (1,))
        self.assertEqual(leads(rows, 2), (3, 0))

    def test_a_way_to_the_row_itself(self):
        self.assertEqual(leads((NUM, ("test", "x", 1), GIVE), 1), (2, 1))
        self.assertEqual(leads((("jump", 0),), 0), (0,))

    def test_row_0_and_the_last_row(self):
        rows = (NUM, SAY, ("jump", 0))
        self.assertEqual([leads(rows, n) for n in range(3)], [(1,), (2,), (0,)])
        self.assertEqual(leads((GIVE,), 0), ())

    def test_names_are_not_looked_at(self):
        rows = [("num", None, 1), ("test", 7, 0), ("say", ("jump", 3)), ("give", 0)]
        self.assertEqual([leads(rows, n) for n in range(4)], [(1,), (2, 0), (3,), ()])


class StandsTest(unittest.TestCase):
    def test_a_row_that_is_no_jump(self):
        for row, names, name, behind in EACH_WORD:
            if row[0] != "jump":
                with self.subTest(row=row):
                    self.assertEqual(stands((GIVE, row, GIVE), 1), 1)

    def test_a_jump(self):
        rows = (("jump", 2), NUM, NUM, GIVE, ("jump", 1))
        self.assertEqual(stands(rows, 0), 2)
        self.assertEqual(stands(rows, 4), 1)

    def test_a_jump_to_a_jump_and_so_on(self):
        rows = (("jump", 3), GIVE, ("jump", 1), ("jump", 4), ("jump", 2))
        self.assertEqual([stands(rows, n) for n in range(5)], [1, 1, 1, 1, 1])

    def test_a_test_is_not_passed(self):
        rows = (("jump", 1), ("test", "x", 2), GIVE)
        self.assertEqual(stands(rows, 0), 1)

    def test_rows_in_a_list(self):
        self.assertEqual(stands([("jump", 1), ("jump", 2), GIVE], 0), 2)

    def test_24_rows_of_jumps(self):
        rows = tuple([("jump", n + 1) for n in range(23)]) + (GIVE,)
        self.assertEqual([stands(rows, n) for n in range(24)], [23] * 24)


class ComeToTest(unittest.TestCase):
    def test_one_row_behind_the_other(self):
        self.assertEqual(come_to((NUM, SAY, GIVE)), [0, 1, 2])
        self.assertEqual(come_to((GIVE,)), [0])

    def test_each_word(self):
        for row, names, name, behind in EACH_WORD:
            with self.subTest(row=row):
                rows = (NUM, NUM, row, GIVE, NUM, NUM, GIVE)
                told = sorted({0, 1, *([2] if row[0] != "jump" else []), *behind})
                self.assertEqual(come_to(rows), told)

    def test_row_0_a_jump(self):
        self.assertEqual(come_to((("jump", 2), GIVE, NUM, GIVE)), [2, 3])
        self.assertEqual(come_to((("jump", 2), GIVE, ("jump", 1))), [1])

    def test_rows_to_which_no_way_leads(self):
        rows = (NUM, ("jump", 4), NUM, SAY, GIVE, ("test", "x", 2), GIVE)
        self.assertEqual(come_to(rows), [0, 4])

    def test_a_row_behind_a_give_by_a_test_alone(self):
        rows = (NUM, ("test", "x", 3), GIVE, SAY, GIVE)
        self.assertEqual(come_to(rows), [0, 1, 2, 3, 4])

    def test_both_ways_of_a_test_through_jumps(self):
        rows = (("test", "x", 4), ("jump", 3), GIVE, GIVE, ("jump", 5), ("jump", 7), SAY, GIVE)
        self.assertEqual(come_to(rows), [0, 3, 7])

    def test_back_ways_only(self):
        rows = (("jump", 5), GIVE, SAY, ("jump", 1), ("jump", 2), ("jump", 4))
        self.assertEqual(come_to(rows), [1, 2])

    def test_a_loop_without_an_end(self):
        self.assertEqual(come_to((NUM, SAY, ("jump", 1))), [0, 1])
        self.assertEqual(come_to((NUM, ("test", "x", 1), ("jump", 1))), [0, 1])

    def test_a_list_of_rising_whole_numbers_without_jumps(self):
        rows = (("jump", 8), GIVE, SAY, ("test", "x", 1), ("jump", 2), SAY, ("test", "x", 4), ("jump", 3),
                ("test", "x", 5), ("jump", 2))
        told = come_to(rows)
        self.assertIs(type(told), list)
        self.assertEqual(told, [1, 2, 3, 5, 6, 8])
        for n in told:
            self.assertIs(type(n), int)
            self.assertNotEqual(rows[n][0], "jump")

    def test_the_list_is_the_askers_own(self):
        rows = (NUM, SAY, GIVE)
        told = come_to(rows)
        told.append(99)
        told[0] = 7
        self.assertEqual(come_to(rows), [0, 1, 2])

    def test_rows_in_a_list_that_change_behind_the_call(self):
        rows = [NUM, SAY, GIVE]
        told = come_to(rows)
        rows[0] = ("jump", 2)
        self.assertEqual(told, [0, 1, 2])
        self.assertEqual(come_to(rows), [2])

    def test_24_rows_most_of_them_tests_or_jumps(self):
        rows = tuple([("test", "x", 23 - n) if n % 2 == 0 else ("jump", n + 1) for n in range(23)]) + (GIVE,)
        self.assertEqual(come_to(rows), [0, 2, 4, 6, 8, 10, 12, 14, 16, 18, 20, 22, 23])

    def test_the_rows_of_the_ways_walked_one_by_one(self):
        """Against the words of the document, taken row by row: a row that is come to makes others come to."""
        words = [("say", "x"), ("give", "x")] + [("jump", to) for to in range(4)] + [("test", "x", to) for to in range(4)]
        for one in words:
            for two in words:
                for three in words:
                    rows = (one, two, three, GIVE)
                    if not rings(rows):
                        self.assertEqual(come_to(rows), come_to_by_words(rows), rows)


class SameAgainTest(unittest.TestCase):
    def test_nothing_handed_in_is_changed_and_the_same_is_told_again(self):
        rows = [row for row, names, name, behind in EACH_WORD]
        before = copy.deepcopy(rows)
        for each in (lambda: [reads(row) for row in rows],
                     lambda: [sets(row) for row in rows],
                     lambda: [leads(rows, n) for n in range(7)],
                     lambda: [stands(rows, n) for n in range(7)],
                     lambda: come_to(rows)):
            self.assertEqual(each(), each())
            self.assertEqual(rows, before)


def rings(rows):
    def goes_on(n):
        for step in range(len(rows) + 1):
            if rows[n][0] != "jump":
                return False
            n = rows[n][1]
        return True
    return any(goes_on(n) for n in range(len(rows)))


def come_to_by_words(rows):
    def standing(n):
        return standing(rows[n][1]) if rows[n][0] == "jump" else n
    found = {standing(0)}
    while True:
        more = set(found)
        for n in found:
            if rows[n][0] == "test":
                more |= {standing(n + 1), standing(rows[n][2])}
            elif rows[n][0] != "give":
                more.add(standing(n + 1))
        if more == found:
            return sorted(found)
        found = more


if __name__ == "__main__":
    unittest.main()

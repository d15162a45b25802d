import copy
import itertools
import unittest

from beltgarth.codes import fits

GIVE = ("give", 0)
BIG = 10 ** 40

# A row of each word, for three places and two parts: part 0 takes 2 args, part 1 none; two rows at least.
EACH_WORD = [("num", 0), ("num", 2 ** 64 - 1), ("op", "+", 0, 2), ("op", "-", 2, 0), ("op", "*", 1, 1), ("op", "<", 0, 0),
             ("op", "=", 2, 2), ("call", 0, (2, 0)), ("call", 0, (1, 1)), ("call", 1, ()), ("say", 0), ("say", 2), ("jump", 1),
             ("test", 0, 0), ("test", 2, 1), ("give", 0), ("give", 2), ("keep", 0), ("keep", 2)]

# Rows that read a place, as functions of it.
READERS = [
    lambda i: ("op", "+", i, 0), lambda i: ("op", "<", 0, i), lambda i: ("call", 0, (i, 0)), lambda i: ("call", 0, (0, i)),
    lambda i: ("say", i), lambda i: ("test", i, 0), lambda i: ("give", i), lambda i: ("keep", i),
]


def part(rows, many=2):
    return (many, tuple(rows))


def code(rows, places=3, many=2):
    """Code whose part 0 has these rows; part 1 takes no args."""
    return (places, (part(rows, many), part([GIVE], 0)))


class FitsTest(unittest.TestCase):
    def answers(self, thing, told):
        before = copy.deepcopy(thing)
        self.assertIs(fits(thing), told, thing)
        self.assertIs(fits(thing), told, thing)
        self.assertEqual(thing, before)

    def good(self, thing):
        self.answers(thing, True)

    def bad(self, thing):
        self.answers(thing, False)

    def bad_rows(self, rows):
        """In part 0 and in a later one."""
        self.bad(code(rows))
        self.bad((3, (part([GIVE]), part([GIVE], 0), part(rows))))


class WordsTest(FitsTest):
    def test_each_word(self):
        for row in EACH_WORD:
            with self.subTest(row=row):
                self.good(code([row, GIVE]))
                self.good(code([("say", 0), row, GIVE]) if row[0] != "jump" else code([row, GIVE]))

    def test_all_in_one_part(self):
        rows = [row for row in EACH_WORD if row[0] != "jump"]
        self.good(code(rows + [("jump", 0)]))
        self.good((3, (part([GIVE]), part(rows[:7] + [GIVE], 0), part(rows + [("jump", 3), ("give", 1)], 4))))

    def test_a_last_row_that_is_a_jump_or_give(self):
        self.good(code([GIVE]))
        self.good(code([("say", 0), ("jump", 0)]))

    def test_a_last_row_that_is_neither(self):
        for row in EACH_WORD:
            if row[0] not in ("jump", "give"):
                with self.subTest(row=row):
                    self.bad_rows([GIVE, row])
                    self.bad_rows([GIVE, GIVE, row])
        for row in (("num", 1), ("say", 0), ("test", 0, 0), ("keep", 0), ("op", "+", 0, 0), ("call", 1, ())):
            self.bad_rows([row])

    def test_a_part_without_rows(self):
        self.bad_rows([])
        self.bad((3, (part([]),)))
        self.bad((3, (part([GIVE]), part([], 0))))

    def test_no_parts_at_all(self):
        self.good((1, ()))
        self.good((16, ()))
        self.bad((0, ()))
        self.bad((17, ()))
        self.bad((-1, ()))

    def test_parts_whatever_of_them_is_called(self):
        for many in range(1, 6):
            self.good((1, tuple(part([GIVE], k % 5) for k in range(many))))

    def test_200_rows_and_five_parts(self):
        rows = [("keep", n % 16) if n % 3 else ("test", n % 16, 199 - n) for n in range(199)]
        self.good((16, tuple(part(rows + [GIVE], many) for many in range(5))))
        for k in range(5):
            parts = [part(rows + [GIVE], many) for many in range(5)]
            parts[k] = part(rows + [("jump", 199)], k)
            self.bad((16, tuple(parts)))


class PlacesTest(FitsTest):
    def test_one_to_sixteen(self):
        for places in range(1, 17):
            self.good((places, (part([("say", places - 1), GIVE]),)))
            self.bad((places, (part([("say", places), GIVE]),)))

    def test_no_number_of_places(self):
        for places in (0, -1, -3, -BIG, 17, 18, 100, BIG):
            self.bad((places, (part([("num", 1), ("jump", 0)]),)))
            self.bad((places, (part([GIVE]),)))

    def test_places_in_each_word_that_reads(self):
        for reader in READERS:
            for i in (0, 1, 2):
                self.good(code([reader(i), GIVE]))
            for i in (-1, -2, -3, -4, -BIG, 3, 4, 16, BIG):
                with self.subTest(row=reader(i)):
                    self.bad_rows([reader(i), GIVE])
                    self.bad_rows([GIVE, reader(i), GIVE])

    def test_the_last_row(self):
        for i in (-1, 3, BIG):
            self.bad_rows([("give", i)])

    def test_each_place_of_a_long_call(self):
        for n in range(4):
            for i, told in ((-1, False), (3, False), (-BIG, False), (BIG, False), (2, True), (0, True)):
                at = [0, 1, 2, 0]
                at[n] = i
                self.answers((3, (part([("call", 0, tuple(at)), GIVE], 4),)), told)

    def test_sixteen_places(self):
        for reader in READERS:
            self.good(code([reader(15), GIVE], 16))
            self.bad(code([reader(16), GIVE], 16))

    def test_one_place(self):
        for reader in READERS:
            self.good(code([reader(0), GIVE], 1))
            self.bad(code([reader(1), GIVE], 1))
            self.bad(code([reader(-1), GIVE], 1))

    def test_worths_are_no_places(self):
        self.good(code([("num", 99), GIVE], 1))


class GoalsTest(FitsTest):
    def test_rows_of_the_part(self):
        for to in (0, 2):
            self.good(code([("say", 0), ("jump", to), GIVE]))
        for to in (0, 1, 2):
            self.good(code([("say", 0), ("test", 0, to), GIVE]))

    def test_no_rows_of_the_part(self):
        for to in (-1, -2, -3, -4, -BIG, 3, 4, BIG):
            with self.subTest(to=to):
                self.bad_rows([("say", 0), ("jump", to), GIVE])
                self.bad_rows([("say", 0), ("test", 0, to), GIVE])
                self.bad_rows([("say", 0), GIVE, ("jump", to)])

    def test_rows_of_another_part(self):
        longer = part([GIVE] * 9)
        for row in (("jump", 3), ("test", 0, 3)):
            self.bad((3, (longer, part([("say", 0), row, GIVE]), longer)))

    def test_a_goal_is_not_held_against_the_places(self):
        self.good((1, (part([GIVE] * 5 + [("jump", 4)]),)))
        self.good((1, (part([("test", 0, 4)] + [GIVE] * 5),)))


class CallsTest(FitsTest):
    def test_no_part(self):
        for k in (-1, -2, -3, -BIG, 2, 3, BIG):
            for at in ((), (0,), (0, 0)):
                self.bad_rows_of_two([("call", k, at), GIVE])

    def bad_rows_of_two(self, rows):
        self.bad((3, (part(rows), part([GIVE], 0))))
        self.bad((3, (part([GIVE], 0), part(rows))))

    def test_too_many_and_too_few(self):
        for takes in range(5):
            for many in range(7):
                rows = [("call", 1, (0,) * many), GIVE]
                self.answers((3, (part(rows), part([GIVE], takes))), many == takes)
                rows = [("call", 0, (0,) * many), GIVE]
                self.answers((3, (part(rows, takes),)), many == takes)

    def test_each_part_by_its_own_number_of_args(self):
        parts = [part([GIVE], many) for many in (3, 0, 4, 1, 2)]
        for caller in range(5):
            for k, many in enumerate((3, 0, 4, 1, 2)):
                for given in range(6):
                    mine = list(parts)
                    mine[caller] = part([("call", k, (0,) * given), GIVE], parts[caller][0])
                    self.answers((1, tuple(mine)), given == many)


class ManyTest(FitsTest):
    def test_0_to_4(self):
        for many in range(5):
            self.good(code([GIVE], many=many))
            self.good((1, (part([GIVE], many),)))

    def test_others(self):
        for many in (-1, -2, -BIG, 5, 6, 16, BIG):
            self.bad(code([GIVE], many=many))
            self.bad((3, (part([GIVE]), part([GIVE], many))))

    def test_five_args_that_a_call_has(self):
        self.bad((3, (part([("call", 0, (0,) * 5), GIVE], 5),)))


class RingsTest(FitsTest):
    def test_jumps_alone(self):
        self.bad_rows([("jump", 0)])
        self.bad_rows([("say", 0), ("jump", 1), GIVE])
        self.bad_rows([("jump", 1), ("jump", 0)])
        self.bad_rows([("say", 0), ("jump", 3), GIVE, ("jump", 1)])
        self.bad_rows([("jump", 2), ("jump", 0), ("jump", 1)])
        self.bad_rows([("jump", 3), ("jump", 0), ("jump", 1), ("jump", 4), ("jump", 2)])

    def test_keeps_and_jumps(self):
        self.bad_rows([("keep", 0), ("jump", 0)])
        self.bad_rows([("say", 0), ("keep", 0), ("jump", 1)])
        self.bad_rows([("keep", 0), ("keep", 1), ("keep", 2), ("jump", 0)])
        self.bad_rows([("keep", 0), ("keep", 1), ("keep", 2), ("jump", 2)])
        self.bad_rows([("jump", 2), ("jump", 4), ("keep", 0), ("jump", 1), ("keep", 1), ("jump", 2)])

    def test_to_which_no_way_leads(self):
        self.bad_rows([GIVE, ("jump", 1)])
        self.bad_rows([GIVE, ("keep", 0), ("jump", 1)])
        self.bad_rows([GIVE, ("keep", 0), ("keep", 0), ("jump", 5), GIVE, ("jump", 2)])
        self.bad_rows([("jump", 3), ("jump", 2), ("jump", 1), GIVE])

    def test_into_which_another_way_leads(self):
        self.bad_rows([("jump", 1), ("keep", 0), ("jump", 1)])
        self.bad_rows([("test", 0, 2), GIVE, ("keep", 1), ("keep", 0), ("jump", 3)])
        self.bad_rows([("say", 0), ("keep", 0), ("jump", 1)])

    def test_a_ring_behind_rows_that_lead_out(self):
        self.bad_rows([("jump", 2), ("keep", 0), ("keep", 0), GIVE, ("jump", 1), ("keep", 0), ("jump", 5)])

    def test_long_rings(self):
        for many in (3, 50, 199):
            self.bad(code([("keep", 0)] * many + [("jump", 0)]))
            self.bad(code([("keep", 0)] * many + [("jump", many)]))
            self.bad(code([("jump", (n + 7) % 200) for n in range(200)]))

    def test_rings_with_a_row_that_counts(self):
        for row in (("num", 1), ("op", "+", 0, 0), ("call", 1, ()), ("say", 0), ("test", 0, 0), ("test", 0, 1)):
            with self.subTest(row=row):
                self.good(code([("keep", 0), row, ("jump", 0)]))
                self.good(code([row, ("keep", 0), ("jump", 0)]))
                self.good(code([row, ("jump", 0)]))
                self.good(code([("jump", 2), GIVE, ("keep", 1), row, ("keep", 0), ("jump", 2)]))

    def test_keeps_and_jumps_without_a_ring(self):
        self.good(code([("keep", 0), ("jump", 3), GIVE, ("keep", 0), ("jump", 2)]))
        self.good(code([("jump", 3), GIVE, ("jump", 1), ("keep", 1), ("jump", 2)]))
        self.good(code([("jump", 2), ("jump", 2), ("keep", 0), GIVE, ("jump", 1), ("jump", 0)]))

    def test_a_ring_in_a_later_part(self):
        for k in range(5):
            parts = [part([("keep", 0), GIVE]) for n in range(5)]
            self.good((1, tuple(parts)))
            parts[k] = part([("keep", 0), ("jump", 0)])
            self.bad((1, tuple(parts)))

    def test_many_rows_that_lead_to_the_same_end(self):
        rows = [("jump", n + 1) if n % 2 else ("keep", 0) for n in range(20000)]
        self.good(code(rows + [GIVE]))
        self.bad(code(rows + [("jump", 0)]))


class AgainstTheWordsTest(FitsTest):
    def test_small_code_of_all_forms(self):
        words = [("num", 1), ("say", 0), ("keep", 0), ("keep", 1), ("test", 0, 0), ("test", 0, 4), ("jump", -1), ("jump", 0),
                 ("jump", 1), ("jump", 2), ("jump", 3), ("jump", 4), ("call", 0, (0,)), ("give", 0)]
        for rows in itertools.product(words, repeat=4):
            told = fits((1, ((1, rows),)))
            self.assertIs(told, fits_by_words(rows), rows)


def fits_by_words(rows):
    """Point 15 of one part that takes one arg, on one place, of the words above."""
    for row in rows:
        if row == ("keep", 1) or row[0] in ("jump", "test") and not 0 <= row[-1] < len(rows):
            return False
    if rows[-1][0] not in ("jump", "give"):
        return False
    ways = {n: {"keep": n + 1, "jump": row[-1]}[row[0]] for n, row in enumerate(rows) if row[0] in ("keep", "jump")}
    for n in ways:
        at = n
        for step in range(len(rows)):
            at = ways.get(at)
            if at == n:
                return False
    return True


if __name__ == "__main__":
    unittest.main()

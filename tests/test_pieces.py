import copy
import itertools
import random
import unittest

import by_words
from beltgarth.checks import check
from beltgarth.errors import NoProgram
from beltgarth.pieces import heads, led_to, order, piece, short
from beltgarth.reader import read
from programs import BACK, COUNT, FACT, FALLS, JUMPS, LOOP, PROGRAMS, random_program


def small_parts():
    """Parts of all forms out of some rows, those that are let by."""
    words = [("num", "a", 1), ("op", "b", "+", "a", "c"), ("say", "b"), ("test", "c", 0), ("test", "a", 4), ("jump", 0),
             ("jump", 3), ("give", "c")]
    for rows in itertools.product(words, repeat=4):
        for first in (("jump", 2), ("say", "b")):
            part = ("f", ("b", "c", "a"), (first,) + rows + (("give", "a"),))
            try:
                check((part,))
            except NoProgram:
                continue
            yield part


class PiecesTest(unittest.TestCase):
    def tells(self, function, things, told):
        before = copy.deepcopy(things)
        found = function(*things)
        self.assertEqual(found, told, things)
        self.assertIs(type(found), type(told))
        self.assertEqual(function(*things), told)
        self.assertEqual(things, before)


class HeadsTest(PiecesTest):
    def has(self, rows, led, tops):
        rows = tuple(rows)
        self.tells(led_to, (rows,), led)
        self.tells(heads, (rows,), tops)
        self.tells(led_to, (list(rows),), led)
        self.tells(heads, (list(rows),), tops)

    def test_one_row(self):
        self.has([("give", "x")], [], [0])

    def test_rows_in_a_row(self):
        self.has([("num", "a", 1), ("say", "a"), ("op", "a", "+", "a", "a"), ("give", "a")], [], [0])

    def test_the_examples(self):
        self.has(COUNT[0][2], [2, 4], [0, 2, 4])
        self.has(FACT[0][2], [3], [0, 3])
        self.has(FACT[1][2], [], [0])
        self.has(JUMPS[0][2], [1, 7, 10], [1, 4, 7, 10])
        self.has(JUMPS[1][2], [2], [2, 3])

    def test_the_goal_of_a_test(self):
        self.has([("test", "x", 2), ("give", "x"), ("give", "x")], [2], [0, 2])

    def test_the_goal_of_a_test_behind_jumps(self):
        self.has([("test", "x", 2), ("give", "x"), ("jump", 4), ("give", "x"), ("jump", 5), ("give", "x")], [5], [0, 5])

    def test_a_test_that_leads_to_the_next_row(self):
        self.has([("test", "x", 1), ("give", "x")], [1], [0, 1])

    def test_a_jump_behind_a_row(self):
        self.has([("say", "x"), ("jump", 3), ("give", "x"), ("give", "x")], [3], [0, 3])
        self.has([("say", "x"), ("jump", 2), ("give", "x")], [2], [0, 2])
        self.has([("say", "x"), ("jump", 4), ("give", "x"), ("give", "x"), ("jump", 3)], [3], [0, 3])

    def test_a_jump_behind_a_test(self):
        self.has([("test", "x", 3), ("jump", 4), ("give", "x"), ("give", "x"), ("give", "x")], [3, 4], [0, 3, 4])

    def test_a_jump_behind_a_give_leads_nowhere(self):
        self.has([("test", "x", 3), ("give", "x"), ("jump", 4), ("give", "x"), ("give", "x")], [3], [0, 3])

    def test_each_word_ahead_of_a_jump(self):
        for row in (("num", "a", 1), ("op", "a", "+", "x", "x"), ("call", "a", 0, ("x",)), ("say", "x"), ("test", "x", 3)):
            self.has([row, ("jump", 3), ("give", "x"), ("give", "x")], [3], [0, 3])

    def test_row_0_a_jump(self):
        self.has([("jump", 2), ("give", "x"), ("say", "x"), ("give", "x")], [], [2])
        self.has([("jump", 1), ("give", "x")], [], [1])
        self.has([("jump", 2), ("give", "x"), ("say", "x"), ("jump", 1)], [1], [1, 2])
        self.has([("jump", 3), ("give", "x"), ("jump", 1), ("jump", 2)], [], [1])

    def test_row_0_a_jump_and_the_begin_s_head_led_to(self):
        # By falling into it from the row ahead, which a test leads to.
        self.has(FALLS[0][2], [1, 2], [1, 2])
        # By a jump, and by a jump to row 0.
        self.has([("jump", 2), ("give", "x"), ("test", "x", 4), ("jump", 2), ("give", "x")], [2, 4], [2, 4])
        self.has([("jump", 2), ("give", "x"), ("say", "x"), ("jump", 0)], [2], [2])
        # By a test.
        self.has([("jump", 2), ("give", "x"), ("test", "x", 0), ("give", "x")], [2], [2])

    def test_row_0_led_to(self):
        self.has(LOOP[0][2], [0], [0])
        self.has(BACK[0][2], [0], [0])
        self.has([("test", "x", 0), ("give", "x")], [0], [0])

    def test_the_row_ahead_of_the_begin_s_head_is_a_give(self):
        self.has([("jump", 3), ("say", "x"), ("give", "x"), ("test", "x", 1), ("give", "x")], [1], [1, 3])

    def test_rows_that_are_not_come_to_lead_nowhere(self):
        self.has([("give", "x"), ("test", "x", 3), ("jump", 0), ("give", "x")], [], [0])
        self.has([("jump", 2), ("say", "x"), ("say", "x"), ("give", "x"), ("test", "x", 1), ("give", "x")], [], [2])

    def test_the_list_is_the_askers_own(self):
        rows = COUNT[0][2]
        led_to(rows).append(9)
        heads(rows).clear()
        self.has(rows, [2, 4], [0, 2, 4])

    def test_against_the_words(self):
        chance = random.Random(1)
        parts = list(small_parts())
        self.assertGreater(len(parts), 2000)
        for n in range(150):
            parts += random_program(chance, 2, 24)
        for part in parts:
            self.assertEqual(led_to(part[2]), by_words.led_to(part[2]), part)
            self.assertEqual(heads(part[2]), by_words.heads(part[2]), part)


class OrderTest(PiecesTest):
    def lies(self, part, n, told):
        self.tells(order, (part, n, len(told)), told)

    def test_a_head_that_is_led_to(self):
        self.lies(COUNT[0], 2, ("one", "sum", "x", None))
        self.lies(COUNT[0], 2, ("one", "sum", "x", None, None))
        self.lies(COUNT[0], 4, ("one", "sum", "x", None))
        self.lies(FACT[0], 3, ("one", "x", None))
        self.lies(JUMPS[0], 1, ("b", None))
        self.lies(JUMPS[0], 7, ("a", "b", None))

    def test_the_begin_s_head_that_is_not(self):
        """As the args come in: the last one lies in front."""
        self.lies(COUNT[0], 0, ("x", None, None, None))
        self.lies(FACT[1], 0, ("b", "a", None))
        self.lies(FACT[1], 0, ("b", "a"))
        self.lies(JUMPS[0], 4, ("b", "a", None, None))
        self.lies(JUMPS[1], 3, ("y", "x", None))

    def test_the_begin_s_head_that_is(self):
        self.lies(LOOP[0], 0, ("x", None))
        self.lies(FALLS[0], 2, ("x", "y", None))
        self.lies(BACK[0], 0, ("a", "b", "c", None))

    def test_params_that_are_not_wanted_at_the_begin(self):
        part = ("f", ("a", "b", "c", "d"), (("num", "c", 1), ("op", "b", "+", "d", "c"), ("give", "a")))
        self.lies(part, 0, ("d", None, None, "a"))
        self.lies(part, 0, ("d", None, None, "a", None))
        self.lies(part, 0, ("d", None, None))
        led = ("f", ("a", "b", "c", "d"), (("num", "c", 1), ("op", "b", "+", "d", "c"), ("test", "b", 0), ("give", "a")))
        self.lies(led, 0, ("a", "d", None, None))

    def test_no_names_wanted(self):
        self.lies(("f", ("x",), (("num", "y", 1), ("give", "y"))), 0, (None, None))
        self.lies(("f", (), (("num", "y", 1), ("test", "y", 0), ("give", "y"))), 0, (None, None))
        self.lies(("f", ("x",), (("num", "y", 1), ("give", "y"))), 0, (None,))

    def test_sixteen_places(self):
        self.lies(COUNT[0], 2, ("one", "sum", "x") + (None,) * 13)
        self.lies(FACT[1], 0, ("b", "a") + (None,) * 14)

    def test_as_many_things_as_places_also_where_there_is_no_room(self):
        for places in range(1, 6):
            for n in (0, 2, 4):
                told = order(COUNT[0], n, places)
                self.assertIs(type(told), tuple)
                self.assertEqual(len(told), places)

    def test_against_the_words(self):
        chance = random.Random(2)
        parts = list(small_parts())[::7]
        for n in range(100):
            parts += random_program(chance, 2, 24)
        for part in parts:
            for places in range(1, 8):
                for n in by_words.heads(part[2]):
                    if not [word for word, names in by_words.words_short(part, n, places) if word != "behind"]:
                        self.assertEqual(order(part, n, places), by_words.order(part, n, places), (part, n, places))


class ShortTest(PiecesTest):
    def is_short(self, program, places, told):
        self.tells(short, (program, places), told)

    def test_not_short(self):
        self.is_short(COUNT, 4, None)
        self.is_short(FACT, 3, None)
        self.is_short(LOOP, 2, None)
        self.is_short((("f", ("x",), (("give", "x"),)),), 1, None)
        self.is_short((("f", (), (("num", "x", 1), ("say", "x"), ("give", "x"))),), 1, None)
        for places in range(5, 17):
            for program in PROGRAMS:
                self.is_short(program, places, None)

    def test_begin(self):
        part = ("f", ("c", "a", "b"), (("say", "a"), ("say", "c"), ("give", "b")))
        self.is_short((part,), 1, (0, 0, "begin", ("a", "c")))
        self.is_short((part,), 2, (0, 0, "begin", ("c",)))
        self.is_short((part,), 3, None)

    def test_begin_of_wanted_params_alone(self):
        self.is_short((("f", ("a", "b", "c"), (("give", "c"),)),), 1, None)
        self.is_short((("f", ("a", "b", "c"), (("give", "b"),)),), 1, (0, 0, "begin", ("b",)))
        self.is_short((("f", ("a", "b", "c"), (("give", "b"),)),), 2, None)
        self.is_short((("f", ("a", "b", "c", "d"), (("give", "a"),)),), 3, (0, 0, "begin", ("a",)))

    def test_begin_behind_a_jump(self):
        part = ("f", ("a", "b"), (("jump", 2), ("give", "b"), ("say", "a"), ("jump", 1)))
        # Row 1 is looked at ahead of row 2, which is the begin's head.
        self.is_short((part,), 1, (0, 1, "head", ("b",)))
        part = ("f", ("a", "b"), (("jump", 2), ("give", "b"), ("say", "a"), ("give", "a")))
        self.is_short((part,), 1, (0, 2, "begin", ("a",)))

    def test_begin_ahead_of_head(self):
        self.is_short(BACK, 2, (0, 0, "begin", ("a",)))
        self.is_short(BACK, 1, (0, 0, "begin", ("a", "b")))
        self.is_short(BACK, 3, (0, 0, "head", ("a", "b", "c")))
        self.is_short(BACK, 4, None)

    def test_head(self):
        self.is_short(LOOP, 1, (0, 0, "head", ("x",)))
        self.is_short(COUNT, 3, (0, 2, "head", ("one", "sum", "x")))
        self.is_short(FACT, 2, (0, 3, "head", ("one", "x")))
        self.is_short(JUMPS, 2, (0, 7, "head", ("a", "b")))

    def test_head_ahead_of_behind(self):
        part = ("f", ("a", "b"), (("num", "c", 1), ("test", "a", 0), ("give", "b")))
        # Both are due at row 0.
        self.is_short((part,), 2, (0, 0, "head", ("a", "b")))
        self.is_short((part,), 3, None)

    def test_no_names_wanted_at_a_head(self):
        self.is_short((("f", (), (("num", "x", 1), ("jump", 0))),), 1, None)
        self.is_short((("f", (), (("num", "x", 1), ("test", "x", 0), ("give", "x"))),), 1, None)

    def test_behind(self):
        self.is_short((("f", ("x",), (("num", "y", 1), ("give", "x"))),), 1, (0, 0, "behind", ("x",)))
        self.is_short((("f", ("x",), (("num", "y", 1), ("give", "x"))),), 2, None)
        part = ("f", ("d", "b"), (("op", "c", "+", "b", "d"), ("say", "d"), ("say", "b"), ("give", "c")))
        self.is_short((part,), 2, (0, 0, "behind", ("b", "d")))
        self.is_short((part,), 3, None)

    def test_behind_with_what_is_set_left_out(self):
        part = ("f", ("d", "b"), (("op", "d", "+", "b", "d"), ("say", "d"), ("give", "b")))
        self.is_short((part,), 2, None)
        self.is_short((part,), 1, (0, 0, "begin", ("d",)))
        part = ("f", ("b",), (("call", "d", 0, ("b",)), ("say", "d"), ("give", "b")))
        self.is_short((part,), 1, (0, 0, "behind", ("b",)))
        self.is_short((part,), 2, None)

    def test_behind_at_a_later_row_and_behind_a_jump(self):
        rows = (("num", "a", 1), ("num", "b", 2), ("num", "c", 3), ("say", "c"), ("say", "b"), ("give", "a"))
        self.is_short((("f", (), rows),), 1, (0, 1, "behind", ("a",)))
        self.is_short((("f", (), rows),), 2, (0, 2, "behind", ("a", "b")))
        self.is_short((("f", (), rows),), 3, None)
        rows = (("num", "a", 1), ("num", "b", 2), ("jump", 4), ("give", "a"), ("say", "b"), ("give", "a"))
        self.is_short((("f", (), rows),), 1, (0, 1, "behind", ("a",)))
        self.is_short((("f", (), rows),), 2, (0, 4, "head", ("a", "b")))

    def test_ahead(self):
        """In a program that is let by another word is due ahead of it; here names are read that aren't set."""
        self.is_short((("f", (), (("say", "b"), ("give", "a"))),), 1, (0, 0, "ahead", ("a", "b")))
        self.is_short((("f", ("b",), (("say", "b"), ("give", "a"))),), 1, (0, 0, "ahead", ("a", "b")))
        self.is_short((("f", (), (("num", "a", 1), ("op", "b", "+", "d", "c"), ("give", "a"))),), 2,
                      (0, 0, "behind", ("c", "d")))
        self.is_short((("f", (), (("op", "b", "+", "d", "c"), ("give", "a"))),), 2, (0, 0, "ahead", ("a", "c", "d")))
        self.is_short((("f", (), (("say", "b"), ("give", "a"))),), 2, None)

    def test_rows_that_are_not_come_to(self):
        rows = (("give", "x"), ("num", "y", 1), ("test", "x", 1), ("give", "x"))
        self.is_short((("f", ("x",), rows),), 1, None)

    def test_parts_rising_and_rows_rising(self):
        good = ("a", ("x",), (("give", "x"),))
        bad = ("b", ("x",), (("num", "y", 1), ("num", "z", 1), ("give", "x")))
        other = ("c", ("x",), (("say", "x"), ("num", "y", 1), ("give", "x")))
        self.is_short((good, bad, other), 1, (1, 0, "behind", ("x",)))
        self.is_short((good, other, bad), 1, (1, 1, "behind", ("x",)))
        self.is_short((other, good), 1, (0, 1, "behind", ("x",)))
        self.is_short((good, good), 1, None)

    def test_against_the_words(self):
        chance = random.Random(3)
        programs = [(part,) for part in small_parts()][::3] + PROGRAMS
        programs += [random_program(chance, chance.randint(1, 5), chance.choice([5, 12, 24])) for n in range(150)]
        found = set()
        for program in programs:
            for places in range(1, 6):
                told = by_words.short(program, places)
                self.assertEqual(short(program, places), told, (program, places))
                found.add(told and told[2])
        self.assertEqual(found, {None, "begin", "head", "behind"})

    def test_where_it_is_not_short_it_is_not_on_more_places(self):
        chance = random.Random(4)
        for n in range(100):
            program = random_program(chance, 3, 12)
            told = [short(program, places) is None for places in range(1, 17)]
            self.assertEqual(told, sorted(told))


class PieceTest(PiecesTest):
    def goes(self, rows, head, told):
        self.tells(piece, (rows, head), told)
        self.tells(piece, (list(rows), head), told)

    def test_one_row(self):
        self.goes((("give", "x"),), 0, ([0], None))

    def test_the_examples(self):
        self.goes(COUNT[0][2], 0, ([0, 1], 2))
        self.goes(COUNT[0][2], 2, ([2, 3], None))
        self.goes(COUNT[0][2], 4, ([4, 5, 6], 2))
        self.goes(FACT[0][2], 0, ([0, 1, 2], None))
        self.goes(FACT[0][2], 3, ([3, 4, 5, 6], None))
        self.goes(JUMPS[0][2], 4, ([4], 7))
        self.goes(JUMPS[0][2], 7, ([7], 10))
        self.goes(JUMPS[0][2], 10, ([10], 1))
        self.goes(JUMPS[0][2], 1, ([1], None))

    def test_tests_within_a_piece(self):
        rows = (("test", "x", 4), ("test", "x", 5), ("say", "x"), ("give", "x"), ("give", "x"), ("give", "x"))
        self.goes(rows, 0, ([0, 1, 2, 3], None))
        self.goes(rows, 4, ([4], None))
        self.goes(rows, 5, ([5], None))

    def test_a_test_whose_goal_is_within_the_rows_behind(self):
        rows = (("test", "x", 2), ("say", "x"), ("say", "x"), ("give", "x"))
        self.goes(rows, 0, ([0, 1], 2))
        self.goes(rows, 2, ([2, 3], None))

    def test_a_piece_that_ends_at_its_own_head(self):
        self.goes(LOOP[0][2], 0, ([0], 0))
        rows = (("num", "x", 1), ("say", "x"), ("say", "x"), ("jump", 1))
        self.goes(rows, 0, ([0], 1))
        self.goes(rows, 1, ([1, 2], 1))

    def test_the_begin_s_head_behind(self):
        self.goes(FALLS[0][2], 1, ([1], 2))
        self.goes(FALLS[0][2], 2, ([2, 3, 4], None))

    def test_the_list_is_the_askers_own(self):
        piece(COUNT[0][2], 0)[0].append(7)
        self.goes(COUNT[0][2], 0, ([0, 1], 2))

    def test_against_the_words(self):
        chance = random.Random(5)
        parts = list(small_parts())[::3]
        for n in range(100):
            parts += random_program(chance, 2, 24)
        for part in parts:
            rows, found = part[2], []
            for head in by_words.heads(rows):
                told = by_words.piece(rows, head)
                self.assertEqual(piece(rows, head), told, (rows, head))
                found += told[0]
            self.assertEqual(set(found), by_words.come(rows))


class SizesTest(PiecesTest):
    def test_the_rows_of_a_long_text(self):
        lines = ["part f x y"] + [f"test x {n * 13 % 600}" for n in range(600)] + ["give y"]
        program = read("\n".join(lines))
        rows = program[0][2]
        self.assertEqual(heads(rows), list(range(600)))
        self.assertEqual(short(program, 3), None)
        self.assertEqual(short(program, 2), (0, 0, "head", ("x", "y")))
        self.assertEqual(piece(rows, 599), ([599, 600], None))
        self.assertEqual(order(program[0], 5, 3), ("x", "y", None))


if __name__ == "__main__":
    unittest.main()

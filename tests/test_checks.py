import copy
import itertools
import unittest

from beltgarth.checks import check
from beltgarth.errors import BeltError, NoLine, NoProgram, Short

GOOD = ("main", ("x",), (("give", "x"),))

# Parts with one thing due, and their due (row, word); each is part 1 behind GOOD.
BAD_NAME = ("main", ("x",), (("give", "x"),))
BAD_ROW = ("f", ("x",), (("say", "x"), ("jump", 5)))
BAD_RING = ("g", ("x",), (("give", "x"), ("jump", 1)))
BAD_UNSET = ("h", ("x",), (("say", "x"), ("give", "y")))


def part(rows, params=("x",), name="f"):
    return (name, params, tuple(rows))


def told(program):
    """None, or what the refusal tells."""
    try:
        answer = check(program)
    except NoProgram as error:
        return (error.part, error.row, error.word)
    if answer is not None:
        raise AssertionError(f"check told {answer!r}")
    return None


class CheckTest(unittest.TestCase):
    def lets_by(self, program):
        self.assertIsNone(told(program), program)

    def refuses(self, program, due):
        self.assertEqual(told(program), due, program)

    def refuses_rows(self, rows, row, word, params=("x",)):
        """As part 0 of a program, and as a later one."""
        self.refuses((part(rows, params),), (0, row, word))
        self.refuses((GOOD, part(rows, params)), (1, row, word))


class LetByTest(CheckTest):
    def test_one_row(self):
        self.lets_by((GOOD,))

    def test_a_part_without_params(self):
        self.lets_by((part([("num", "a", 0), ("give", "a")], ()),))

    def test_a_part_without_params_that_calls_itself(self):
        self.lets_by((part([("call", "a", 0, ()), ("give", "a")], ()),))

    def test_a_part_of_all_words(self):
        self.lets_by((part([
            ("num", "one", 1), ("op", "x", "-", "x", "one"), ("say", "x"), ("test", "x", 1),
            ("call", "y", 0, ("one", "x")), ("jump", 7), ("num", "z", 2 ** 64 - 1), ("give", "y"),
        ], ("x", "w")),))

    def test_a_loop_that_never_ends(self):
        self.lets_by((part([("say", "x"), ("jump", 0)]),))

    def test_a_ring_with_a_test_in_it(self):
        self.lets_by((part([("test", "x", 0), ("jump", 0)]),))

    def test_the_last_row_a_jump(self):
        self.lets_by((part([("jump", 2), ("give", "x"), ("jump", 1)]),))

    def test_a_test_to_itself_and_to_the_last_row(self):
        self.lets_by((part([("test", "x", 0), ("test", "x", 2), ("give", "x")]),))

    def test_unset_names_in_rows_to_which_no_way_leads(self):
        self.lets_by((part([("jump", 2), ("say", "y"), ("give", "x"), ("op", "z", "+", "z", "y"), ("give", "z")]),))

    def test_a_name_set_on_both_ways(self):
        self.lets_by((part([
            ("test", "x", 3), ("num", "y", 1), ("jump", 4), ("num", "y", 2), ("give", "y"),
        ]),))

    def test_a_name_set_ahead_of_a_loop_and_in_it(self):
        self.lets_by((part([
            ("num", "s", 0), ("op", "s", "+", "s", "x"), ("op", "x", "<", "s", "x"), ("test", "x", 1), ("give", "s"),
        ]),))

    def test_a_name_set_in_a_loop_body_and_read_behind_it_there(self):
        self.lets_by((part([("num", "y", 3), ("say", "y"), ("test", "x", 0), ("give", "y")]),))

    def test_a_param_set_anew(self):
        self.lets_by((part([("op", "x", "+", "x", "x"), ("give", "x")]),))

    def test_a_name_that_a_call_sets(self):
        self.lets_by((part([("call", "y", 0, ("x",)), ("give", "y")]),))

    def test_names_of_parts_params_and_others_alike(self):
        self.lets_by((part([("num", "f", 1), ("give", "f")], ("g",), "f"), part([("give", "f")], ("f",), "g")))

    def test_parts_with_the_same_params(self):
        self.lets_by((part([("give", "x")], ("x", "y"), "f"), part([("give", "y")], ("x", "y"), "g")))

    def test_the_same_name_as_an_arg_twice(self):
        self.lets_by((part([("call", "y", 0, ("x", "x")), ("give", "y")], ("x", "y")),))

    def test_programs_of_one_to_five_parts_that_call_one_another(self):
        names = ["a", "b", "c", "d", "e"]
        for many in range(1, 6):
            program = []
            for k in range(many):
                params = tuple(names[:k])
                rows = [("num", name, 7) for name in names]
                rows += [("call", "x", to, tuple(names[:to])) for to in range(many)]
                program.append((names[k], params, tuple(rows + [("test", "x", 0), ("give", "x")])))
            self.lets_by(tuple(program))

    def test_unreached_calls_of_a_right_form(self):
        self.lets_by((part([("give", "x"), ("call", "z", 1, ("q", "q")), ("jump", 0)]),
                      part([("give", "x")], ("x", "y"), "g")))


class NameTest(CheckTest):
    def test_a_name_of_a_part_ahead(self):
        self.refuses((GOOD, GOOD), (1, 0, "name"))
        self.refuses((part([("give", "x")], name="a"), part([("give", "x")], name="b"),
                      part([("give", "x")], name="a")), (2, 0, "name"))

    def test_the_first_of_the_later_ones_is_told(self):
        one = part([("give", "x")], name="a")
        other = part([("give", "x")], name="b")
        self.refuses((one, other, other, one), (2, 0, "name"))

    def test_two_params_alike(self):
        for params in (("x", "x"), ("x", "y", "x"), ("y", "x", "z", "x"), ("x", "y", "z", "z")):
            self.refuses((part([("give", "x")], params),), (0, 0, "name"))
            self.refuses((GOOD, part([("give", "x")], params)), (1, 0, "name"))

    def test_row_0_is_told_whatever_is_due_in_later_rows(self):
        self.refuses((GOOD, part([("say", "x"), ("give", "q")], name="main")), (1, 0, "name"))


class RowTest(CheckTest):
    def test_a_jump_to_no_row(self):
        for to in (-1, -2, -3, -100, 3, 4, 100, 2 ** 64):
            self.refuses_rows([("say", "x"), ("jump", to), ("give", "x")], 1, "row")

    def test_a_test_to_no_row(self):
        for to in (-1, -2, -3, -100, 3, 4, 100, 2 ** 64):
            self.refuses_rows([("say", "x"), ("test", "x", to), ("give", "x")], 1, "row")

    def test_each_row_is_a_goal(self):
        for to in (0, 2):
            self.lets_by((part([("say", "x"), ("jump", to), ("give", "x")]),))
        for to in (0, 1, 2):
            self.lets_by((part([("say", "x"), ("test", "x", to), ("give", "x")]),))

    def test_a_call_of_no_part(self):
        for k in (-1, -2, -3, -100, 2, 3, 100):
            program = (GOOD, part([("say", "x"), ("call", "y", k, ("x",)), ("give", "x")]))
            self.refuses(program, (1, 1, "row"))
            self.refuses(tuple(reversed(program)), (0, 1, "row"))

    def test_each_part_may_be_called(self):
        for k in (0, 1):
            program = (GOOD, part([("call", "y", k, ("x",)), ("give", "y")]))
            self.lets_by(program)
            self.lets_by(tuple(reversed(program)))

    def test_too_many_and_too_few_args(self):
        for takes in range(5):
            for many in range(6):
                callee = part([("num", "a", 0), ("give", "a")], ("p", "q", "r", "s")[:takes], "g")
                caller = part([("say", "x"), ("call", "y", 1, ("x",) * many), ("give", "x")])
                if many == takes:
                    self.lets_by((caller, callee))
                else:
                    self.refuses((caller, callee), (0, 1, "row"))

    def test_a_call_of_itself_with_another_number_of_args(self):
        self.refuses_rows([("give", "x"), ("call", "y", 0, ()), ("give", "x")], 1, "row")

    def test_the_callees_own_faults_do_not_count_for_the_call(self):
        program = (part([("call", "y", 1, ("x", "x")), ("give", "y")]), part([("give", "q")], ("q", "q"), "g"))
        self.refuses(program, (1, 0, "name"))

    def test_a_last_row_that_is_neither_jump_nor_give(self):
        for row in (("num", "y", 1), ("op", "y", "+", "x", "x"), ("say", "x"), ("test", "x", 0)):
            self.refuses_rows([row], 0, "row")
            self.refuses_rows([("give", "x"), ("say", "x"), row], 2, "row")
        self.refuses((part([("say", "x"), ("call", "y", 0, ("x",))]),), (0, 1, "row"))

    def test_a_part_without_rows(self):
        self.refuses_rows([], 0, "row")
        self.refuses_rows([], 0, "row", ())

    def test_the_first_row_is_told(self):
        self.refuses_rows([("say", "x"), ("jump", 9), ("test", "x", -1), ("call", "y", 7, ()), ("say", "x")], 1, "row")
        self.refuses_rows([("say", "x"), ("say", "x"), ("test", "x", -1), ("jump", 9), ("give", "x")], 2, "row")
        self.refuses_rows([("call", "y", 7, ()), ("jump", 9)], 0, "row")
        self.refuses_rows([("say", "x"), ("jump", 9), ("say", "x")], 1, "row")

    def test_rows_to_which_no_way_leads_count(self):
        self.refuses_rows([("give", "x"), ("say", "x"), ("jump", 9), ("give", "x")], 2, "row")
        self.refuses_rows([("give", "x"), ("call", "y", 9, ()), ("give", "x")], 1, "row")
        self.refuses_rows([("give", "x"), ("say", "x")], 1, "row")


class RingTest(CheckTest):
    def test_a_ring_of_one(self):
        self.refuses_rows([("jump", 0)], 0, "ring")
        self.refuses_rows([("say", "x"), ("jump", 1), ("give", "x")], 1, "ring")

    def test_a_ring_of_two(self):
        self.refuses_rows([("say", "x"), ("jump", 3), ("say", "x"), ("jump", 1)], 1, "ring")

    def test_a_ring_of_three(self):
        for goals in ((2, 3, 1), (3, 1, 2)):
            self.refuses_rows([("say", "x")] + [("jump", to) for to in goals] + [("give", "x")], 1, "ring")

    def test_a_jump_that_leads_into_a_ring_is_not_in_it(self):
        self.refuses_rows([("jump", 1), ("jump", 1)], 1, "ring")
        self.refuses_rows([("jump", 2), ("give", "x"), ("jump", 4), ("say", "x"), ("jump", 5), ("jump", 4)], 4, "ring")
        self.refuses_rows([("jump", 1), ("jump", 2), ("jump", 3), ("jump", 4), ("jump", 2)], 2, "ring")

    def test_the_first_of_two_rings(self):
        self.refuses_rows([("say", "x"), ("jump", 4), ("jump", 2), ("give", "x"), ("jump", 1)], 1, "ring")
        self.refuses_rows([("say", "x"), ("jump", 3), ("jump", 2), ("jump", 4), ("give", "x")], 2, "ring")

    def test_a_ring_to_which_no_way_leads(self):
        self.refuses_rows([("give", "x"), ("jump", 2), ("jump", 1)], 1, "ring")

    def test_jumps_that_come_round_through_another_row(self):
        self.lets_by((part([("jump", 2), ("jump", 0), ("say", "x"), ("jump", 1)]),))


class UnsetTest(CheckTest):
    def test_each_word_that_reads(self):
        for row in (("op", "z", "+", "y", "x"), ("op", "z", "+", "x", "y"), ("call", "z", 0, ("y",)),
                    ("say", "y"), ("test", "y", 0)):
            self.refuses((part([("say", "x"), row, ("give", "x")]),), (0, 1, "unset"))
            self.refuses((part([row, ("give", "x")]),), (0, 0, "unset"))
        self.refuses_rows([("say", "x"), ("give", "y")], 1, "unset")
        self.refuses_rows([("give", "y")], 0, "unset")
        self.refuses_rows([("give", "x")], 0, "unset", ())

    def test_a_later_arg(self):
        self.refuses((part([("say", "x"), ("call", "y", 0, ("x", "p", "z")), ("give", "y")], ("x", "p", "q")),),
                     (0, 1, "unset"))

    def test_set_on_one_way_and_not_on_another(self):
        self.refuses_rows([("test", "x", 2), ("num", "y", 1), ("give", "y")], 2, "unset")
        self.refuses_rows([("test", "x", 3), ("num", "y", 1), ("jump", 4), ("say", "x"), ("give", "y")], 4, "unset")
        self.refuses_rows([("test", "x", 3), ("say", "x"), ("jump", 4), ("num", "y", 1), ("give", "y")], 4, "unset")

    def test_set_on_a_way_back_alone(self):
        self.refuses_rows([("jump", 2), ("num", "y", 1), ("say", "y"), ("jump", 1)], 2, "unset")

    def test_whatever_a_test_reads(self):
        self.refuses_rows([("num", "a", 1), ("test", "a", 3), ("jump", 4), ("num", "y", 1), ("give", "y")], 4, "unset")

    def test_read_in_the_row_that_first_sets_it(self):
        self.refuses_rows([("op", "y", "+", "y", "x"), ("give", "y")], 0, "unset")
        self.refuses_rows([("say", "x"), ("op", "y", "*", "x", "y"), ("give", "y")], 1, "unset")
        self.refuses((part([("say", "x"), ("call", "y", 0, ("y",)), ("give", "y")]),), (0, 1, "unset"))

    def test_set_only_by_a_row_to_which_no_way_leads(self):
        self.refuses_rows([("jump", 2), ("num", "y", 1), ("give", "y")], 2, "unset")

    def test_set_only_in_another_part(self):
        self.refuses((part([("num", "y", 1), ("give", "y")], name="a"), part([("give", "y")], name="b")),
                     (1, 0, "unset"))

    def test_params_of_another_part(self):
        self.refuses((part([("give", "y")], ("y",), "a"), part([("give", "y")], ("x",), "b")), (1, 0, "unset"))

    def test_the_first_row_by_number_is_told(self):
        self.refuses_rows([("say", "x"), ("say", "b"), ("say", "a"), ("give", "x")], 1, "unset")
        self.refuses_rows([("say", "x"), ("say", "a"), ("say", "b"), ("give", "x")], 1, "unset")
        self.refuses_rows([("jump", 3), ("say", "a"), ("give", "x"), ("say", "b"), ("jump", 1)], 1, "unset")

    def test_rows_without_a_way_do_not_count(self):
        self.refuses_rows([("jump", 3), ("say", "a"), ("give", "b"), ("say", "x"), ("give", "c")], 4, "unset")

    def test_the_row_of_a_jump_to_the_reader_is_not_told(self):
        self.refuses_rows([("jump", 1), ("jump", 3), ("give", "x"), ("give", "y")], 3, "unset")


class OrderTest(CheckTest):
    def test_two_due_in_one_part(self):
        """Each pair of words, the later word's row ahead of the earlier one's where that can be."""
        twice = ("x", "x")
        self.refuses((part([("say", "x"), ("jump", 9)], twice),), (0, 0, "name"))
        self.refuses((part([], twice),), (0, 0, "name"))
        self.refuses((part([("give", "x"), ("jump", 1)], twice),), (0, 0, "name"))
        self.refuses((part([("say", "x"), ("give", "y")], twice),), (0, 0, "name"))
        self.refuses_rows([("jump", 0), ("jump", 9)], 1, "row")
        self.refuses_rows([("jump", 0), ("say", "x")], 1, "row")
        self.refuses_rows([("say", "y"), ("say", "y"), ("jump", 9)], 2, "row")
        self.refuses_rows([("say", "y"), ("call", "z", 5, ()), ("give", "x")], 1, "row")
        self.refuses_rows([("say", "y"), ("jump", 1)], 1, "ring")
        self.refuses_rows([("give", "y"), ("jump", 1)], 1, "ring")

    def test_all_four_due_in_one_part(self):
        rows = [("say", "y"), ("jump", 1), ("jump", 9)]
        self.refuses((GOOD, part(rows, ("x", "x"), "main")), (1, 0, "name"))
        self.refuses((GOOD, part(rows, ("x", "x"))), (1, 0, "name"))
        self.refuses((GOOD, part(rows)), (1, 2, "row"))
        self.refuses((GOOD, part(rows[:2])), (1, 1, "ring"))
        self.refuses((GOOD, part([rows[0], ("give", "x")])), (1, 0, "unset"))

    def test_the_earlier_of_two_parts_is_told(self):
        dues = [(BAD_NAME, (0, "name")), (BAD_ROW, (1, "row")), (BAD_RING, (1, "ring")), (BAD_UNSET, (1, "unset"))]
        for one, due in dues:
            self.refuses((GOOD, one), (1,) + due)
            for other, later in dues:
                self.refuses((GOOD, one, other), (1,) + due)
                self.refuses((GOOD, part([("give", "x")], name="k"), one, other), (2,) + due)

    def test_a_fifth_part(self):
        ahead = tuple(part([("give", "x")], name=name) for name in ("a", "b", "c"))
        for one, due in ((BAD_ROW, (1, "row")), (BAD_RING, (1, "ring")), (BAD_UNSET, (1, "unset"))):
            self.refuses((GOOD,) + ahead + (one,), (4,) + due)
        self.refuses((GOOD,) + ahead + (BAD_NAME,), (4, 0, "name"))


class RefusalTest(CheckTest):
    def test_it_is_a_no_program_and_no_other(self):
        for bad in (BAD_NAME, BAD_ROW, BAD_RING, BAD_UNSET):
            with self.assertRaises(BeltError) as taken:
                check((GOOD, bad))
            self.assertIsInstance(taken.exception, NoProgram)
            self.assertNotIsInstance(taken.exception, (NoLine, Short))
            self.assertIs(type(taken.exception.part), int)
            self.assertIs(type(taken.exception.row), int)
            self.assertIs(type(taken.exception.word), str)

    def test_asked_again(self):
        for bad in (BAD_NAME, BAD_ROW, BAD_RING, BAD_UNSET):
            first = told((GOOD, bad))
            self.assertIsNotNone(first)
            self.assertEqual(told((GOOD, bad)), first)
            self.assertEqual(told((GOOD, bad)), first)

    def test_a_good_one_behind_a_refused_one(self):
        for bad in (BAD_NAME, BAD_ROW, BAD_RING, BAD_UNSET):
            self.assertIsNotNone(told((GOOD, bad)))
            self.lets_by((GOOD,))
            self.assertIsNotNone(told((GOOD, bad)))
            self.lets_by((GOOD, part([("num", "y", 1), ("give", "y")])))

    def test_nothing_handed_in_is_changed(self):
        fine = part([("give", "x")])
        for other in (fine, BAD_NAME, BAD_ROW, BAD_RING, BAD_UNSET):
            program = (GOOD, other)
            before = copy.deepcopy(program)
            told(program)
            self.assertEqual(program, before)


class SizesTest(CheckTest):
    def test_24_tests_and_jumps_let_by(self):
        rows = [("test", "x", 23 - n) if n % 2 == 0 else ("jump", n + 1) for n in range(23)]
        self.lets_by((part(rows + [("give", "x")]),))

    def test_23_jumps_one_behind_the_other(self):
        rows = [("jump", n + 1) for n in range(23)]
        self.lets_by((part(rows + [("give", "x")]),))
        self.refuses_rows(rows + [("give", "y")], 23, "unset")

    def test_a_ring_of_24_jumps(self):
        self.refuses_rows([("jump", (n + 1) % 24) for n in range(24)], 0, "ring")
        self.refuses_rows([("jump", min(n + 1, 23)) for n in range(24)], 23, "ring")

    def test_22_tests_with_a_way_for_each(self):
        """As many ways as 2 ** 22 lead to the end: they are not to be walked one by one."""
        rows = [("num", "y", 1)] + [("test", "x", min(n + 2, 23)) for n in range(1, 23)]
        self.lets_by((part(rows + [("give", "y")]),))

    def test_the_one_way_past_the_row_that_sets(self):
        rows = [("test", "x", min(n + 2, 22)) for n in range(22)]
        rows[10] = ("test", "x", 20)
        rows[19] = ("num", "y", 1)
        self.refuses_rows(rows + [("jump", 23), ("give", "y")], 23, "unset")
        rows[20] = ("num", "y", 2)
        self.lets_by((part([("jump", 19)] + rows[1:] + [("jump", 23), ("give", "y")]),))

    def test_goals_at_the_edge(self):
        for to, due in ((23, None), (24, (0, 1, "row")), (25, (0, 1, "row")), (0, None), (-1, (0, 1, "row"))):
            rows = [("say", "x"), ("jump", to)] + [("test", "x", 0)] * 21 + [("give", "x")]
            self.refuses((part(rows),), due)

    def test_five_parts_of_24_rows_with_many_names(self):
        names = ["n" + chr(97 + n) for n in range(11)]
        rows = [("num", name, 1) for name in names] + [("say", name) for name in names]
        parts = [part(rows + [("test", "x", 0), ("give", "x")], ("x", "y", "z", "w"), name) for name in "abcde"]
        self.lets_by(tuple(parts))
        parts[4] = part(rows[1:] + [("test", "x", 0), ("jump", 0), ("give", "x")], ("x",), "e")
        self.refuses(tuple(parts), (4, 10, "unset"))

    def test_somewhat_beyond_the_bounds(self):
        rows = [("test", "x", n + 1) if n % 2 == 0 else ("jump", n + 1) for n in range(600)]
        self.lets_by((part(rows + [("give", "x")]),))
        self.refuses_rows(rows + [("give", "y")], 600, "unset")
        self.lets_by(tuple(part([("give", "x")], ("x", "y", "z", "v", "w"), "a" * (n + 1)) for n in range(8)))


class AgainstTheWordsTest(CheckTest):
    """Small parts of all forms, against the words of point 5 taken one by one."""

    def test_all_parts_of_three_rows(self):
        words = [("say", "x"), ("num", "y", 1), ("op", "y", "+", "x", "y"), ("give", "y"), ("give", "x"),
                 ("call", "y", 0, ("x",)), ("call", "x", 1, ("x",))]
        words += [("jump", to) for to in (-1, 0, 1, 2, 3)]
        words += [("test", "x", to) for to in (0, 2, 3)]
        for rows in itertools.product(words, repeat=3):
            self.refuses((part(rows),), due_by_words(rows))

    def test_parts_of_five_rows(self):
        words = [("num", "y", 1), ("say", "y"), ("test", "x", 4), ("test", "x", 1), ("jump", 2), ("jump", 0)]
        for rows in itertools.product(words, repeat=4):
            rows = rows + (("give", "x"),)
            self.refuses((part(rows),), due_by_words(rows))


def due_by_words(rows):
    """What is due in a program of one part with the param x and these rows."""
    for n, row in enumerate(rows):
        if row[0] in ("jump", "test") and row[-1] not in range(len(rows)):
            return (0, n, "row")
        if row[0] == "call" and (row[2] != 0 or len(row[3]) != 1):
            return (0, n, "row")
    if rows[-1][0] not in ("jump", "give"):
        return (0, len(rows) - 1, "row")
    for n in range(len(rows)):
        at = n
        for step in range(len(rows)):
            if rows[at][0] == "jump":
                at = rows[at][1]
                if at == n:
                    return (0, n, "ring")
    return unset_by_words(rows)


def unset_by_words(rows):
    """All pairs of a row and the names set there that some way has, found by going on until no more come."""
    pairs = [(0, frozenset(["x"]))]
    due = []
    for n, names in pairs:
        row = rows[n]
        read = {"op": row[3:], "say": row[1:], "give": row[1:], "test": row[1:2]}.get(row[0], ())
        if row[0] == "call":
            read = row[3]
        if not set(read) <= names:
            due.append(n)
        if row[0] in ("num", "op", "call"):
            names = names | {row[1]}
        following = [] if row[0] in ("give", "jump") else [n + 1]
        if row[0] in ("jump", "test"):
            following.append(row[-1])
        for to in following:
            if (to, names) not in pairs:
                pairs.append((to, names))
    return (0, min(due), "unset") if due else None


if __name__ == "__main__":
    unittest.main()

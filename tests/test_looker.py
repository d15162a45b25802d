import copy
import itertools
import unittest

from beltgarth.checks import check
from beltgarth.codes import fits
from beltgarth.looker import wrong
from beltgarth.machine import Machine
from beltgarth.plain import Walk

# Says x, x - 1, .. 1 and gives the sum of them.
COUNT = (("count", ("x",), (
    ("num", "sum", 0),
    ("num", "one", 1),
    ("test", "x", 4),
    ("give", "sum"),
    ("say", "x"),
    ("op", "sum", "+", "sum", "x"),
    ("op", "x", "-", "x", "one"),
    ("jump", 2),
)),)
COUNT_CODE = (4, ((1, (
    ("num", 0), ("num", 1), ("test", 2, 4), ("give", 1), ("say", 2), ("op", "+", 1, 2), ("op", "-", 3, 1), ("keep", 1),
    ("keep", 3), ("jump", 2),
)),))
COUNT_PAPERS = ((
    (0, ("x", None, None, None)),
    (1, ("sum", "x", None, None)),
    (2, ("one", "sum", "x", None)),
    (3, (None, "sum", None, None)),
    (4, ("one", "sum", "x", None)),
    (5, ("one", "sum", "x", None)),
    (6, ("sum", "one", None, "x")),
    (2, ("x", "sum", "one", None)),
    (2, ("sum", "x", "sum", "one")),
    (2, ("one", "sum", "x", "sum")),
),)

# Two parts that call one another and themselves, with jumps at their begins.
CALLS = (
    ("main", ("a", "b"), (
        ("jump", 1),
        ("call", "c", 1, ("b", "a")),
        ("test", "c", 5),
        ("say", "a"),
        ("jump", 6),
        ("call", "a", 0, ("c", "c")),
        ("give", "a"),
    )),
    ("less", ("a", "b"), (("op", "a", "<", "a", "b"), ("jump", 3), ("give", "b"), ("give", "a"))),
)
CALLS_CODE = (3, (
    (2, (("keep", 1), ("call", 1, (1, 0)), ("test", 0, 5), ("say", 1), ("jump", 9), ("jump", 6), ("keep", 0),
         ("call", 0, (1, 0)), ("keep", 0), ("give", 1))),
    (2, (("op", "<", 1, 0), ("give", 0))),
))
# To the last row of part 0 two ways lead, so its paper tells what both bring: a at place 1.
CALLS_PAPERS = (
    (
        (1, ("b", "a", None)),
        (1, ("a", "b", "a")),
        (2, ("c", "a", "b")),
        (3, ("c", "a", None)),
        (6, ("c", "a", None)),
        (5, ("c", None, None)),
        (5, ("c", None, None)),
        (5, ("c", "c", None)),
        (6, ("a", None, None)),
        (6, (None, "a", None)),
    ),
    ((0, ("b", "a", None)), (3, ("a", None, None))),
)

GOOD = [(COUNT, COUNT_CODE, COUNT_PAPERS), (CALLS, CALLS_CODE, CALLS_PAPERS)]


def standing(rows, n):
    return standing(rows, rows[n][1]) if rows[n][0] == "jump" else n


def is_weaker(one, other):
    return len(one) == len(other) and not [n for n, name in enumerate(one) if name is not None and other[n] != name]


def comes_in(names, x):
    return (x,) + names[:-1]


def place_holds(rows, codes, papers, m):
    """Point 19 of one row of code, word by word."""
    word = codes[m][0]
    n, names = papers[m]
    plain = rows[n]
    if word == "keep":
        return papers[m + 1][0] == n and is_weaker(papers[m + 1][1], comes_in(names, names[codes[m][1]]))
    if word == "jump":
        return papers[codes[m][1]][0] == n and is_weaker(papers[codes[m][1]][1], names)
    if plain[0] != word:
        return False
    if word == "give":
        return names[codes[m][1]] == plain[1]
    following = papers[m + 1][0] == standing(rows, n + 1)
    if word == "say":
        return names[codes[m][1]] == plain[1] and following and is_weaker(papers[m + 1][1], names)
    if word == "test":
        led = papers[codes[m][2]]
        return (names[codes[m][1]] == plain[1] and following and is_weaker(papers[m + 1][1], names)
                and led[0] == standing(rows, plain[2]) and is_weaker(led[1], names))
    x = plain[1]
    lies = comes_in(tuple(None if name == x else name for name in names), x)
    same = {"num": lambda: plain[2] == codes[m][1],
            "op": lambda: plain[2] == codes[m][1] and (names[codes[m][2]], names[codes[m][3]]) == plain[3:],
            "call": lambda: plain[2] == codes[m][1] and tuple(names[i] for i in codes[m][2]) == plain[3]}[word]()
    return same and following and is_weaker(papers[m + 1][1], lies)


def wrong_by_words(program, code, papers):
    places, parts = code
    for k in range(max(len(program), len(parts))):
        if k >= len(program) or k >= len(parts) or len(program[k][1]) != parts[k][0]:
            return (k, 0)
    for k, (name, params, rows) in enumerate(program):
        args = ([None] * places + list(params))[::-1][:places]
        if papers[k][0][0] != standing(rows, 0) or not is_weaker(papers[k][0][1], tuple(args)):
            return (k, 0)
        for m in range(len(parts[k][1])):
            if not place_holds(rows, parts[k][1], papers[k], m):
                return (k, m)
    return None


def with_row(things, k, m, thing):
    """Papers, or parts of code as tuples of rows, with another one at row m of part k."""
    part = things[k][:m] + (thing,) + things[k][m + 1:]
    return things[:k] + (part,) + things[k + 1:]


def with_code_row(code, k, m, row):
    rows = with_row(tuple(part[1] for part in code[1]), k, m, row)
    return (code[0], tuple((part[0], mine) for part, mine in zip(code[1], rows)))


class LookerTest(unittest.TestCase):
    def tells(self, program, code, papers, told):
        before = copy.deepcopy((program, code, papers))
        found = wrong(program, code, papers)
        self.assertEqual(found, told)
        if told is not None:
            self.assertIs(type(found), tuple)
            self.assertEqual([type(number) for number in found], [int, int])
        self.assertEqual(wrong(program, code, papers), told)
        self.assertEqual((program, code, papers), before)

    def one(self, params, rows, places, codes, papers, told):
        """Of one part, and of the same as the second of two parts."""
        program = (("f", params, tuple(rows)),)
        code = (places, ((len(params), tuple(codes)),))
        check(program)
        self.assertTrue(fits(code))
        self.tells(program, code, (tuple(papers),), None if told is None else (0, told))
        self.assertEqual(wrong_by_words(program, code, (tuple(papers),)), None if told is None else (0, told))
        if not [row for row in rows if row[0] == "call"]:
            ahead = ("g", ("q",), (("give", "q"),))
            self.tells((ahead,) + program, (places, ((1, (("give", 0),)),) + code[1]),
                       (((0, ("q",) + (None,) * (places - 1)),), tuple(papers)), None if told is None else (1, told))


class LetByTest(LookerTest):
    def test_the_examples(self):
        for program, code, papers in GOOD:
            check(program)
            self.assertTrue(fits(code))
            self.tells(program, code, papers, None)

    def test_one_row(self):
        self.one(("x",), [("give", "x")], 1, [("give", 0)], [(0, ("x",))], None)

    def test_fewer_names_told(self):
        rows = [("say", "x"), ("give", "x")]
        codes = [("say", 0), ("keep", 0), ("give", 1)]
        self.one(("y", "x"), rows, 2, codes, [(0, ("x", "y")), (1, ("x", "y")), (1, ("x", "x"))], None)
        self.one(("y", "x"), rows, 2, codes, [(0, ("x", None)), (1, ("x", None)), (1, (None, "x"))], None)

    def test_a_begin_at_keeps_and_jumps(self):
        rows = [("jump", 2), ("give", "y"), ("say", "x"), ("jump", 1)]
        codes = [("jump", 2), ("give", 1), ("keep", 1), ("say", 1), ("keep", 0), ("jump", 1)]
        papers = [(2, ("x", "y")), (1, (None, "y")), (2, ("x", "y")), (2, ("y", "x")), (1, ("y", None)), (1, (None, "y"))]
        self.one(("y", "x"), rows, 2, codes, papers, None)

    def test_more_params_than_places(self):
        self.one(("a", "b", "c"), [("say", "b"), ("give", "c")], 2, [("say", 1), ("give", 0)],
                 [(0, ("c", "b")), (1, ("c", "b"))], None)
        self.one(("a", "b", "c", "d"), [("give", "d")], 1, [("give", 0)], [(0, ("d",))], None)

    def test_landings_behind_tests(self):
        rows = [("test", "x", 3), ("say", "y"), ("jump", 0), ("give", "y")]
        codes = [("test", 0, 6), ("say", 1), ("jump", 5), ("keep", 0), ("jump", 7), ("jump", 0), ("keep", 1), ("give", 0)]
        papers = [(0, ("x", "y")), (1, ("x", "y")), (0, ("x", "y")), (3, ("y", None)), (3, ("y", None)), (0, ("x", "y")),
                  (3, (None, "y")), (3, ("y", None))]
        self.one(("y", "x"), rows, 2, codes, papers, None)

    def test_code_to_which_no_way_leads_is_looked_at_too(self):
        rows = [("give", "x")]
        self.one(("x",), rows, 1, [("give", 0), ("keep", 0), ("give", 0)], [(0, ("x",)), (0, ("x",)), (0, ("x",))], None)
        self.one(("x",), rows, 1, [("give", 0), ("keep", 0), ("give", 0)], [(0, ("x",)), (0, (None,)), (0, ("x",))], 1)

    def test_a_plain_row_twice_in_the_code(self):
        rows = [("say", "x"), ("jump", 0)]
        codes = [("say", 0), ("say", 0), ("keep", 0), ("jump", 0)]
        papers = [(0, ("x",))] * 4
        self.one(("x",), rows, 1, codes, papers, None)

    def test_names_that_lie_twice(self):
        rows = [("op", "y", "+", "x", "x"), ("give", "y")]
        codes = [("keep", 0), ("op", "+", 0, 1), ("give", 0)]
        self.one(("x",), rows, 3, codes, [(0, ("x", None, None)), (0, ("x", "x", None)), (1, ("y", "x", "x"))], None)

    def test_no_args_and_no_reads(self):
        rows = [("num", "x", 5), ("give", "x")]
        self.one((), rows, 1, [("num", 5), ("give", 0)], [(0, (None,)), (1, ("x",))], None)

    def test_a_test_of_which_both_ways_lead_to_one_row(self):
        rows = [("test", "x", 1), ("give", "x")]
        self.one(("x",), rows, 1, [("test", 0, 2), ("give", 0), ("give", 0)], [(0, ("x",)), (1, ("x",)), (1, ("x",))], None)
        self.one(("x",), rows, 1, [("test", 0, 1), ("give", 0)], [(0, ("x",)), (1, ("x",))], None)


class PartsTest(LookerTest):
    GIVE = ("f", ("x",), (("give", "x"),))
    CODE = (1, (("give", 0),))
    PAPERS = ((0, ("x",)),)

    def of(self, takes, many, told, papers=None):
        names = ("a", "b", "c", "d", "e")
        program = tuple((names[k], tuple("vwxy"[:count]), (("num", "x", 1), ("give", "x"))) for k, count in enumerate(takes))
        code = (1, tuple((count, (("num", 1), ("give", 0))) for count in many))
        if papers is None:
            papers = (((0, (None,)), (1, ("x",))),) * len(many)
        self.tells(program, code, papers, told)

    def test_alike(self):
        self.of((0,), (0,), None)
        self.of((1, 0, 4, 2, 3), (1, 0, 4, 2, 3), None)

    def test_a_part_of_the_program_without_a_fellow(self):
        self.of((1, 2), (1,), (1, 0))
        self.of((1, 2, 3, 0), (1, 2), (2, 0))
        self.of((0,), (), (0, 0))
        self.of((1, 0), (1,), (1, 0))

    def test_a_part_of_the_code_without_a_fellow(self):
        self.of((1,), (1, 2), (1, 0))
        self.of((1, 2), (1, 2, 0, 0), (2, 0))
        self.of((1,), (1, 0), (1, 0))

    def test_papers_of_a_part_without_a_fellow_may_be_any(self):
        mine = ((0, (None,)), (1, ("x",)))
        for any_papers in [((99, ("q",)), (-1, (None,))), ((5, ("z",)), (7, ("y",)))]:
            self.of((1,), (1, 2), (1, 0), (mine, any_papers))

    def test_another_number_of_args(self):
        self.of((1,), (0,), (0, 0))
        self.of((1,), (2,), (0, 0))
        self.of((0, 2, 1), (0, 2, 4), (2, 0))
        self.of((0, 2, 1), (0, 3, 1), (1, 0))
        self.of((0, 2, 1), (4, 3, 1), (0, 0))

    def test_another_number_of_args_ahead_of_a_part_without_a_fellow(self):
        self.of((0, 2, 1), (0, 1), (1, 0))
        self.of((0, 1), (0, 2, 1), (1, 0))

    def test_numbers_are_looked_at_ahead_of_all_else(self):
        bad = ((1, ("x",)), (0, (None,)))
        self.of((0, 1), (0, 2), (1, 0), (bad, bad))
        self.of((0, 1), (0,), (1, 0), (bad,))
        self.of((0,), (0, 1), (1, 0), (bad, bad))
        self.of((0, 1), (0, 1), (0, 0), (bad, bad))

    def test_the_first_part_is_told(self):
        good = ((0, (None,)), (1, ("x",)))
        bad = ((0, (None,)), (1, (None,)))
        for told in itertools.product((True, False), repeat=3):
            first = (told.index(False), 1) if False in told else None
            self.of((0, 1, 2), (0, 1, 2), first, tuple(good if right else bad for right in told))


class BeginTest(LookerTest):
    def test_another_row(self):
        rows = [("say", "x"), ("say", "x"), ("give", "x")]
        codes = [("say", 0), ("say", 0), ("give", 0)]
        self.one(("x",), rows, 1, codes[1:], [(1, ("x",)), (2, ("x",))], 0)
        self.one(("x",), rows, 1, codes, [(0, ("x",)), (1, ("x",)), (2, ("x",))], None)

    def test_the_row_to_which_a_jump_at_the_begin_leads(self):
        rows = [("jump", 2), ("give", "x"), ("say", "x"), ("jump", 1)]
        self.one(("x",), rows, 1, [("say", 0), ("give", 0)], [(2, ("x",)), (1, ("x",))], None)
        self.one(("x",), rows, 1, [("give", 0)], [(1, ("x",))], 0)

    def test_other_names(self):
        rows = [("num", "a", 1), ("give", "a")]
        codes = [("num", 1), ("give", 0)]
        for names, told in [(("y", "x", None), None), ((None, "x", None), None), ((None, None, None), None),
                            (("x", "y", None), 0), (("x", None, None), 0), ((None, "y", None), 0), ((None, None, "x"), 0),
                            (("y", "x", "x"), 0), (("y", "x", "a"), 0), (("a", "x", None), 0)]:
            self.one(("x", "y"), rows, 3, codes, [(0, names), (1, ("a", None, None))], told)

    def test_a_param_that_fell_off(self):
        rows = [("give", "x")]
        self.one(("x", "y"), rows, 1, [("give", 0)], [(0, ("x",))], 0)
        self.one(("y", "x"), rows, 1, [("give", 0)], [(0, ("x",))], None)

    def test_the_begin_is_looked_at_ahead_of_row_0(self):
        """Both are wrong here; and where the begin alone is wrong, row 0 is told too."""
        rows = [("say", "x"), ("give", "x")]
        self.one(("x",), rows, 1, [("give", 0), ("give", 0)], [(1, ("x",)), (0, ("x",))], 0)
        self.one(("x", "y"), rows, 2, [("say", 0), ("give", 0)], [(0, ("x", None)), (1, ("x", None))], 0)


class WrongTest(LookerTest):
    def changed(self, example, k, m, told, row=None, paper=None):
        """One of the examples with another row of code, or another paper."""
        program, code, papers = example
        if row is not None:
            code = with_code_row(code, k, m, row)
            self.assertTrue(fits(code))
        if paper is not None:
            papers = with_row(papers, k, m, paper)
        self.tells(program, code, papers, told)
        self.assertEqual(wrong_by_words(program, code, papers), told)

    def test_another_word(self):
        count, calls = GOOD
        self.changed(count, 0, 0, (0, 0), row=("say", 0))
        self.changed(count, 0, 3, (0, 3), row=("say", 1))
        self.changed(count, 0, 4, (0, 4), row=("give", 2))
        self.changed(count, 0, 4, (0, 4), row=("num", 4))
        self.changed(count, 0, 4, (0, 4), row=("test", 2, 5))
        self.changed(count, 0, 2, (0, 2), row=("say", 2))
        self.changed(count, 0, 2, (0, 2), row=("give", 2))
        self.changed(count, 0, 5, (0, 5), row=("num", 4))
        self.changed(count, 0, 7, (0, 7), row=("num", 4))
        self.changed(count, 0, 9, (0, 9), row=("give", 0))
        self.changed(calls, 0, 1, (0, 1), row=("op", "+", 1, 0))
        self.changed(calls, 1, 0, (1, 0), row=("call", 1, (1, 0)))

    def test_a_keep_or_a_jump_where_the_plain_row_is_to_be_done(self):
        count, calls = GOOD
        self.changed(count, 0, 4, (0, 4), row=("keep", 2))
        self.changed(count, 0, 0, (0, 0), row=("keep", 0))
        self.changed(count, 0, 4, (0, 4), row=("jump", 5))
        self.changed(calls, 1, 0, (1, 0), row=("jump", 1))

    def test_another_worth_sign_or_part(self):
        count, calls = GOOD
        self.changed(count, 0, 0, (0, 0), row=("num", 1))
        self.changed(count, 0, 1, (0, 1), row=("num", 2 ** 64 - 1))
        for s in "-*<=":
            self.changed(count, 0, 5, (0, 5), row=("op", s, 1, 2))
        for s in "+*<=":
            self.changed(count, 0, 6, (0, 6), row=("op", s, 3, 1))
        self.changed(calls, 0, 1, (0, 1), row=("call", 0, (1, 0)))
        self.changed(calls, 0, 7, (0, 7), row=("call", 1, (1, 0)))

    def test_reading_another_place(self):
        count, calls = GOOD
        for i in (0, 1, 3):
            self.changed(count, 0, 2, (0, 2), row=("test", i, 4))
            self.changed(count, 0, 4, (0, 4), row=("say", i))
        for i in (0, 2, 3):
            self.changed(count, 0, 3, (0, 3), row=("give", i))
        for i, j in [(2, 1), (1, 1), (2, 2), (0, 2), (1, 0), (3, 2), (1, 3)]:
            self.changed(count, 0, 5, (0, 5), row=("op", "+", i, j))
        for at in [(0, 1), (1, 1), (0, 0), (2, 0), (1, 2)]:
            right = tuple(CALLS_PAPERS[0][1][1][i] for i in at) == ("b", "a")
            self.changed(calls, 0, 1, None if right else (0, 1), row=("call", 1, at))
        self.changed(calls, 0, 7, None, row=("call", 0, (0, 0)))
        self.changed(calls, 0, 7, (0, 7), row=("call", 0, (2, 0)))

    def test_a_place_of_which_the_paper_tells_no_name(self):
        count, calls = GOOD
        self.changed(count, 0, 4, (0, 4), paper=(4, ("one", "sum", None, None)))
        self.changed(count, 0, 3, (0, 3), paper=(3, (None, None, None, None)))
        self.changed(calls, 1, 1, (1, 1), paper=(3, (None, None, None)))

    def test_the_row_behind(self):
        count, calls = GOOD
        self.changed(count, 0, 1, (0, 0), paper=(2, ("sum", "x", None, None)))
        self.changed(count, 0, 5, (0, 4), paper=(6, ("one", "sum", "x", None)))
        self.changed(calls, 1, 1, (1, 0), paper=(2, ("a", None, None)))
        self.changed(calls, 0, 2, (0, 1), paper=(3, ("c", "a", "b")))
        self.changed(calls, 0, 4, (0, 3), paper=(5, ("c", "a", None)))

    def test_the_names_behind(self):
        count, calls = GOOD
        for names in [("sum", "one", None, None), ("x", "x", None, None), ("sum", "x", "x", None), ("one", "x", None, None)]:
            self.changed(count, 0, 1, (0, 0), paper=(1, names))
        # What was set anew is told of the front alone.
        for names in [("sum", "one", "sum", "x"), (None, "one", "sum", None)]:
            self.changed(count, 0, 6, (0, 5), paper=(6, names))
        self.changed(count, 0, 5, (0, 4), paper=(5, ("one", "sum", "x", "x")))
        self.changed(calls, 1, 1, (1, 0), paper=(3, ("a", None, "a")))
        self.changed(calls, 0, 8, (0, 7), paper=(6, ("a", "a", None)))

    def test_a_keep_s_paper_behind(self):
        count, calls = GOOD
        self.changed(count, 0, 8, (0, 7), paper=(2, ("sum", "x", "sum", "x")))
        self.changed(count, 0, 8, (0, 7), paper=(2, ("x", "x", "sum", "one")))
        self.changed(count, 0, 8, (0, 7), paper=(4, ("sum", "x", "sum", "one")))
        self.changed(count, 0, 7, (0, 7), row=("keep", 0))
        self.changed(count, 0, 8, (0, 8), row=("keep", 2))
        self.changed(calls, 0, 1, (0, 0), paper=(2, ("a", "b", "a")))
        self.changed(calls, 0, 0, (0, 0), row=("keep", 0))

    def test_a_jump_s_paper_behind(self):
        count, calls = GOOD
        self.changed(count, 0, 9, (0, 8), paper=(4, ("one", "sum", "x", "sum")))
        self.changed(count, 0, 9, (0, 9), row=("jump", 1))
        self.changed(count, 0, 9, (0, 9), row=("jump", 4))
        self.changed(count, 0, 9, (0, 9), paper=(2, ("one", "sum", None, None)))
        self.changed(calls, 0, 4, (0, 4), row=("jump", 8))
        self.changed(calls, 0, 4, (0, 4), row=("jump", 7))

    def test_a_test_s_two_ways(self):
        count, calls = GOOD
        self.changed(count, 0, 3, (0, 2), paper=(4, (None, "sum", None, None)))
        self.changed(count, 0, 3, (0, 2), paper=(3, (None, "sum", None, "x")))
        self.changed(count, 0, 4, (0, 2), paper=(3, ("one", "sum", "x", None)))
        self.changed(count, 0, 4, (0, 2), paper=(4, ("one", "sum", "x", "x")))
        self.changed(count, 0, 2, (0, 2), row=("test", 2, 3))
        self.changed(count, 0, 2, (0, 2), row=("test", 2, 5))
        self.changed(calls, 0, 2, (0, 2), row=("test", 0, 3))
        rows = [("test", "x", 2), ("give", "x"), ("give", "y")]
        codes = [("test", 0, 2), ("give", 1), ("give", 0)]
        self.one(("y", "x"), rows, 2, codes, [(0, ("x", "y")), (2, ("x", "y")), (1, ("x", "y"))], 0)

    def test_the_first_row_is_told(self):
        program, code, papers = GOOD[0]
        for first, second in itertools.combinations(range(10), 2):
            changed = with_code_row(with_code_row(code, 0, second, ("num", 77)) if second < 9 else
                                    with_code_row(code, 0, second, ("give", 3)), 0, first, ("num", 77))
            self.tells(program, changed, papers, (0, first))


class AgainstTheWordsTest(unittest.TestCase):
    """Each example with each small change of its papers and of its code."""

    def looks(self, program, code, papers):
        found = wrong(program, code, papers)
        self.assertEqual(found, wrong_by_words(program, code, papers), (code, papers))
        if found is None:
            self.runs_alike(program, code, papers)
        return found

    def runs_alike(self, program, code, papers):
        """Point 3 (a), as far as some steps for some args show it."""
        for k, part in enumerate(program):
            for args in itertools.product((0, 1, 3), repeat=len(part[1])):
                walk, machine = Walk(program, k, args), Machine(code, k, args)
                for n in range(25):
                    self.assertEqual((walk.said(), walk.answer()), (machine.said(), machine.answer()))
                    plain, belts = walk.frames(), machine.frames()
                    self.assertEqual(len(plain), len(belts))
                    for (p, row, names), (q, m, belt) in zip(plain, belts):
                        self.assertEqual((p, row), (q, papers[q][m][0]))
                        for name, thing in zip(papers[q][m][1], belt):
                            self.assertTrue(name is None or names[name] == thing)
                    walk.step()
                    machine.step()

    def test_each_name_and_row_of_each_paper(self):
        for program, code, papers in GOOD:
            let_by = 0
            for k, mine in enumerate(papers):
                rows = program[k][2]
                for m, (n, names) in enumerate(mine):
                    others = [(row, names) for row in range(len(rows)) if rows[row][0] != "jump"]
                    others += [(n, names[:i] + (name,) + names[i + 1:]) for i in range(len(names))
                               for name in (None, "a", "b", "c", "x", "sum", "one")]
                    for paper in others:
                        let_by += self.looks(program, code, with_row(papers, k, m, paper)) is None
            self.assertGreater(let_by, 20)

    def test_each_row_of_the_code(self):
        for program, code, papers in GOOD:
            places = range(code[0])
            for k, part in enumerate(code[1]):
                to = range(len(part[1]))
                rows = [("num", n) for n in (0, 1, 2)] + [("op", s, i, j) for s in "+-<" for i in places for j in places]
                rows += [(word, i) for word in ("say", "give", "keep") for i in places] + [("jump", n) for n in to]
                rows += [("test", i, n) for i in places for n in to]
                rows += [("call", q, at) for q in range(len(program))
                         for at in itertools.product(places, repeat=len(program[q][1]))]
                for m in range(len(part[1])):
                    for row in rows:
                        changed = with_code_row(code, k, m, row)
                        if fits(changed):
                            self.looks(program, changed, papers)

    def test_small_code_and_papers_of_all_forms(self):
        program = (("f", ("x",), (("test", "x", 2), ("jump", 2), ("give", "x"))),)
        rows = [("test", 0, 2), ("test", 0, 1), ("keep", 0), ("jump", 2), ("give", 0)]
        let_by = 0
        for codes in itertools.product(rows, repeat=2):
            code = (1, ((1, codes + (("give", 0),)),))
            if not fits(code):
                continue
            for told in itertools.product(itertools.product((0, 2), (("x",), (None,))), repeat=3):
                let_by += self.looks(program, code, (told,)) is None
        self.assertEqual(let_by, 7)


if __name__ == "__main__":
    unittest.main()

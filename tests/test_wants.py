import copy
import itertools
import unittest

from beltgarth.checks import check
from beltgarth.errors import NoProgram
from beltgarth.reader import read
from beltgarth.wants import wanted


def standing(rows, n):
    return standing(rows, rows[n][1]) if rows[n][0] == "jump" else n


def next_rows(rows, n):
    row = rows[n]
    if row[0] == "give":
        return []
    return [standing(rows, n + 1)] + ([standing(rows, row[2])] if row[0] == "test" else [])


def read_names(row):
    return {"num": (), "op": row[3:], "call": row[3:] and row[3], "say": row[1:], "test": row[1:2], "give": row[1:]}[row[0]]


def set_name(row):
    return row[1] if row[0] in ("num", "op", "call") else None


def is_wanted(rows, n, name):
    """Point 12, word by word: on from row n, it first, past rows that neither read the name nor set it."""
    seen, waiting = set(), [n]
    while waiting:
        at = waiting.pop()
        if at in seen:
            continue
        seen.add(at)
        if name in read_names(rows[at]):
            return True
        if set_name(rows[at]) != name:
            waiting += next_rows(rows, at)
    return False


def wanted_by_words(rows):
    come, waiting = set(), [standing(rows, 0)]
    while waiting:
        at = waiting.pop()
        if at not in come:
            come.add(at)
            waiting += next_rows(rows, at)
    names = sorted({name for row in rows if row[0] != "jump" for name in read_names(row)})
    return {n: tuple(name for name in names if is_wanted(rows, n, name)) for n in come}


class WantedTest(unittest.TestCase):
    def wants(self, rows, told):
        before = copy.deepcopy(rows)
        found = wanted(rows)
        self.assertEqual(found, told)
        self.assertIs(type(found), dict)
        for n, names in found.items():
            self.assertIs(type(n), int)
            self.assertIs(type(names), tuple)
        self.assertEqual(wanted(rows), told)
        self.assertEqual(wanted(list(rows)), told)
        self.assertEqual(rows, before)

    def test_one_row(self):
        self.wants((("give", "x"),), {0: ("x",)})

    def test_each_word(self):
        behind = ("give", "x")
        for row, names in [
            (("num", "x", 5), ()),
            (("num", "y", 5), ("x",)),
            (("op", "x", "+", "b", "a"), ("a", "b")),
            (("op", "y", "+", "b", "a"), ("a", "b", "x")),
            (("call", "x", 0, ("c", "a", "b")), ("a", "b", "c")),
            (("call", "y", 0, ("c", "z")), ("c", "x", "z")),
            (("call", "x", 0, ()), ()),
            (("call", "y", 0, ()), ("x",)),
            (("say", "a"), ("a", "x")),
            (("say", "x"), ("x",)),
            (("test", "a", 1), ("a", "x")),
            (("test", "x", 1), ("x",)),
        ]:
            with self.subTest(row=row):
                self.wants((row, behind), {0: names, 1: ("x",)})
        self.wants((("give", "a"), behind), {0: ("a",)})
        self.wants((("jump", 1), behind), {1: ("x",)})

    def test_rows_in_a_row(self):
        self.wants((("num", "a", 1), ("num", "b", 2), ("op", "c", "+", "a", "b"), ("say", "c"), ("say", "a"), ("give", "c")),
                   {0: (), 1: ("a",), 2: ("a", "b"), 3: ("a", "c"), 4: ("a", "c"), 5: ("c",)})

    def test_a_name_that_is_set_and_not_read_again(self):
        self.wants((("num", "a", 1), ("num", "b", 2), ("num", "a", 3), ("give", "a")),
                   {0: (), 1: (), 2: (), 3: ("a",)})

    def test_a_name_that_is_set_between_two_readings(self):
        self.wants((("say", "a"), ("say", "x"), ("num", "a", 3), ("say", "x"), ("give", "a")),
                   {0: ("a", "x"), 1: ("x",), 2: ("x",), 3: ("a", "x"), 4: ("a",)})

    def test_a_row_that_reads_what_it_sets(self):
        self.wants((("say", "x"), ("op", "x", "*", "x", "y"), ("give", "x")), {0: ("x", "y"), 1: ("x", "y"), 2: ("x",)})
        self.wants((("say", "y"), ("op", "x", "*", "x", "x"), ("give", "y")), {0: ("x", "y"), 1: ("x", "y"), 2: ("y",)})
        self.wants((("say", "y"), ("call", "x", 0, ("x",)), ("give", "x")), {0: ("x", "y"), 1: ("x",), 2: ("x",)})

    def test_loops(self):
        self.wants((("num", "sum", 0), ("num", "one", 1), ("test", "x", 4), ("give", "sum"),
                    ("op", "sum", "+", "sum", "x"), ("op", "x", "-", "x", "one"), ("jump", 2)),
                   {0: ("x",), 1: ("sum", "x"), 2: ("one", "sum", "x"), 3: ("sum",), 4: ("one", "sum", "x"),
                    5: ("one", "sum", "x")})

    def test_a_loop_without_an_end(self):
        self.wants((("say", "x"), ("say", "y"), ("jump", 0)), {0: ("x", "y"), 1: ("x", "y")})
        self.wants((("say", "x"), ("say", "y"), ("num", "x", 1), ("jump", 1)), {0: ("x", "y"), 1: ("y",), 2: ("y",)})
        self.wants((("num", "x", 1), ("jump", 0)), {0: ()})
        self.wants((("test", "x", 0), ("jump", 0)), {0: ("x",)})

    def test_wanted_by_the_way_back_alone(self):
        self.wants((("num", "a", 0), ("say", "b"), ("say", "a"), ("test", "c", 2), ("give", "c")),
                   {0: ("b", "c"), 1: ("a", "b", "c"), 2: ("a", "c"), 3: ("a", "c"), 4: ("c",)})

    def test_both_ways_of_a_test(self):
        self.wants((("test", "x", 3), ("say", "a"), ("give", "b"), ("say", "c"), ("give", "d")),
                   {0: ("a", "b", "c", "d", "x"), 1: ("a", "b"), 2: ("b",), 3: ("c", "d"), 4: ("d",)})

    def test_set_on_one_way_and_read_on_the_other(self):
        self.wants((("test", "x", 3), ("num", "a", 1), ("give", "a"), ("give", "a")),
                   {0: ("a", "x"), 1: (), 2: ("a",), 3: ("a",)})
        self.wants((("test", "x", 3), ("say", "a"), ("give", "x"), ("num", "a", 1), ("give", "a")),
                   {0: ("a", "x"), 1: ("a", "x"), 2: ("x",), 3: (), 4: ("a",)})
        self.wants((("test", "x", 3), ("num", "a", 1), ("jump", 4), ("num", "a", 2), ("give", "a")),
                   {0: ("x",), 1: (), 3: (), 4: ("a",)})

    def test_row_0_a_jump(self):
        self.wants((("jump", 2), ("give", "a"), ("say", "b"), ("jump", 1)), {1: ("a",), 2: ("a", "b")})
        self.wants((("jump", 3), ("give", "a"), ("jump", 1), ("jump", 2)), {1: ("a",)})

    def test_no_jump_is_a_key(self):
        rows = (("test", "a", 3), ("jump", 4), ("give", "z"), ("jump", 5), ("jump", 6), ("say", "b"), ("give", "c"))
        self.wants(rows, {0: ("a", "b", "c"), 5: ("b", "c"), 6: ("c",)})

    def test_rows_to_which_no_way_leads(self):
        rows = (("say", "a"), ("jump", 4), ("say", "q"), ("test", "r", 4), ("give", "b"), ("num", "b", 1), ("jump", 0))
        self.wants(rows, {0: ("a", "b"), 4: ("b",)})

    def test_names_are_sorted_and_each_is_told_once(self):
        self.wants((("call", "z", 0, ("c", "aa", "b", "a", "c", "a")), ("op", "z", "+", "y", "y"), ("test", "z", 1),
                    ("give", "ab")),
                   {0: ("a", "aa", "ab", "b", "c", "y"), 1: ("ab", "y"), 2: ("ab", "y", "z"), 3: ("ab",)})

    def test_names_like_words_of_rows(self):
        self.wants((("op", "num", "=", "op", "num"), ("give", "num")), {0: ("num", "op"), 1: ("num",)})
        self.wants((("num", "op", 1), ("give", "num")), {0: ("num",), 1: ("num",)})

    def test_24_rows_most_of_them_tests(self):
        names = list("abcdefghijklmnopqrstuvw")
        rows = tuple(("test", names[n], min(n + 2, 23)) for n in range(23)) + (("give", "x"),)
        told = {n: tuple(names[n:]) + ("x",) for n in range(24)}
        self.wants(rows, told)
        rows = tuple(("test", names[n], (n * 7 + 3) % 24) for n in range(23)) + (("give", "x"),)
        self.wants(rows, wanted_by_words(rows))
        rows = tuple(("test", names[n], 0) for n in range(23)) + (("give", "x"),)
        self.wants(rows, {n: tuple(names) + ("x",) if n < 23 else ("x",) for n in range(24)})

    def test_a_long_way_back_through_many_loops(self):
        """Each row's wants come from the loop behind it: a name goes back row by row."""
        rows = tuple(("test", "x", max(n - 1, 0)) for n in range(23)) + (("give", "last"),)
        self.wants(rows, {n: ("last", "x") if n < 23 else ("last",) for n in range(24)})

    def test_the_dict_is_the_askers_own(self):
        rows = (("num", "a", 1), ("say", "x"), ("give", "a"))
        told = wanted(rows)
        told[0] = ("z",)
        told[9] = ()
        told.pop(1)
        self.wants(rows, {0: ("x",), 1: ("a", "x"), 2: ("a",)})

    def test_rows_in_a_list_that_change_behind_the_call(self):
        rows = [("num", "a", 1), ("say", "x"), ("give", "a")]
        told = wanted(rows)
        rows[2] = ("give", "x")
        self.assertEqual(told, {0: ("x",), 1: ("a", "x"), 2: ("a",)})
        self.assertEqual(wanted(rows), {0: ("x",), 1: ("x",), 2: ("x",)})

    def test_the_rows_of_a_long_text(self):
        names = [chr(97 + n) + chr(97 + m) for n in range(22) for m in range(24)]
        lines = ["part f"] + [f"{name} = 5" for name in names] + [f"say {name}" for name in names] + ["give aa"]
        rows = read("\n".join(lines))[0][2]
        told = wanted(rows)
        many = len(names)
        self.assertEqual(sorted(told), list(range(2 * many + 1)))
        for n in range(many):
            self.assertEqual(told[n], tuple(names[:n]))
            self.assertEqual(told[many + n], tuple(sorted(set(names[n:] + ["aa"]))))

    def test_a_long_text_of_loops(self):
        lines = ["part f x"] + [f"test x {max(n - 1, 0)}" for n in range(600)] + ["give x"]
        told = wanted(read("\n".join(lines))[0][2])
        self.assertEqual(told, {n: ("x",) for n in range(601)})


class AgainstTheWordsTest(unittest.TestCase):
    def test_small_parts_of_all_forms(self):
        words = [("num", "a", 1), ("op", "b", "+", "a", "b"), ("call", "a", 0, ("b", "c")), ("say", "b"), ("say", "a"),
                 ("give", "c"), ("test", "c", 0), ("test", "a", 4), ("jump", 0), ("jump", 3), ("jump", 4)]
        looked_at = 0
        for rows in itertools.product(words, repeat=4):
            rows = rows + (("give", "a"),)
            try:
                check((("f", ("b", "c"), rows),))
            except NoProgram as error:
                if error.word != "unset":
                    continue
            looked_at += 1
            self.assertEqual(wanted(rows), wanted_by_words(rows), rows)
        self.assertGreater(looked_at, 1000)


if __name__ == "__main__":
    unittest.main()

import copy
import unittest

from beltgarth.checks import check
from beltgarth.errors import NoProgram
from beltgarth.reader import read
from beltgarth.writer import write

# A row of each word and its line; part 1 is called g.
LINES = [
    (("num", "x", 5), "x = 5"),
    (("num", "x", 0), "x = 0"),
    (("num", "long", 2 ** 64 - 1), "long = 18446744073709551615"),
    (("num", "x", 10 ** 18), "x = 1000000000000000000"),
    (("num", "x", 10 ** 19 + 7), "x = 10000000000000000007"),
    (("op", "x", "+", "a", "b"), "x = a + b"),
    (("op", "x", "-", "b", "a"), "x = b - a"),
    (("op", "x", "*", "x", "x"), "x = x * x"),
    (("op", "x", "<", "num", "op"), "x = num < op"),
    (("op", "x", "=", "a", "b"), "x = a = b"),
    (("call", "x", 1, ("a", "b")), "x = call g a b"),
    (("call", "x", 1, ("b",)), "x = call g b"),
    (("call", "x", 1, ("d", "c", "b", "a")), "x = call g d c b a"),
    (("call", "x", 1, ()), "x = call g"),
    (("call", "x", 0, ()), "x = call f"),
    (("say", "a"), "say a"),
    (("jump", 4), "jump 4"),
    (("jump", 0), "jump 0"),
    (("jump", 10), "jump 10"),
    (("test", "a", 4), "test a 4"),
    (("test", "abcdefgh", 23), "test abcdefgh 23"),
    (("give", "a"), "give a"),
]
G = ("g", ("a",), (("give", "a"),))


class WriteTest(unittest.TestCase):
    def writes(self, program, lines):
        before = copy.deepcopy(program)
        told = write(program)
        self.assertIs(type(told), str)
        self.assertEqual(told, "\n".join(lines))
        self.assertEqual(write(program), told)
        self.assertEqual(program, before)

    def test_each_word(self):
        for row, line in LINES:
            with self.subTest(row=row):
                self.writes((("f", (), (row,)), G), ["part f", line, "part g a", "give a"])

    def test_all_words_in_one_part(self):
        rows = tuple(row for row, line in LINES)
        self.writes((("f", ("p", "q"), rows), G),
                    ["part f p q"] + [line for row, line in LINES] + ["part g a", "give a"])

    def test_params(self):
        for params, line in (((), "part f"), (("x",), "part f x"), (("z", "a", "y"), "part f z a y"),
                             (("d", "c", "b", "a"), "part f d c b a")):
            self.writes((("f", params, (("jump", 0),)),), [line, "jump 0"])

    def test_no_line_feed_at_the_end_and_no_blanks_there(self):
        told = write((("f", (), (("call", "x", 0, ()), ("give", "x"))),))
        self.assertEqual(told, "part f\nx = call f\ngive x")
        for line in told.split("\n"):
            self.assertEqual(line, line.strip())
            self.assertNotIn("  ", line)

    def test_one_to_five_parts(self):
        parts = [(name, (name,), (("give", name),)) for name in ("aa", "b", "c", "d", "e")]
        lines = []
        for many, name in enumerate(("aa", "b", "c", "d", "e"), start=1):
            lines += [f"part {name} {name}", f"give {name}"]
            self.writes(tuple(parts[:many]), lines)

    def test_calls_of_each_part_by_its_name(self):
        rows = tuple(("call", "x", k, ()) for k in (2, 0, 1)) + (("give", "x"),)
        self.writes((("one", (), rows), ("two", (), rows), ("three", (), rows)),
                    ["part one", "x = call three", "x = call one", "x = call two", "give x",
                     "part two", "x = call three", "x = call one", "x = call two", "give x",
                     "part three", "x = call three", "x = call one", "x = call two", "give x"])

    def test_two_parts_of_one_name(self):
        rows = (("call", "x", 0, ()), ("call", "x", 1, ()), ("call", "x", 2, ()), ("give", "x"))
        self.writes((("f", (), rows), ("g", (), rows), ("f", (), rows)),
                    ["part f", "x = call f", "x = call g", "x = call f", "give x",
                     "part g", "x = call f", "x = call g", "x = call f", "give x",
                     "part f", "x = call f", "x = call g", "x = call f", "give x"])

    def test_programs_that_are_not_let_by(self):
        for program, lines in [
            ((("f", ("x", "x"), (("give", "x"),)),), ["part f x x", "give x"]),
            ((("f", (), ()),), ["part f"]),
            ((("f", (), ()), ("g", ("x",), ())), ["part f", "part g x"]),
            ((("f", ("x",), (("say", "x"),)),), ["part f x", "say x"]),
            ((("f", ("x",), (("jump", 0),)),), ["part f x", "jump 0"]),
            ((("f", (), (("give", "y"),)),), ["part f", "give y"]),
            ((("f", ("x",), (("call", "y", 0, ()), ("give", "y"))),), ["part f x", "y = call f", "give y"]),
            ((("f", ("x",), (("test", "x", 99), ("jump", 7))),), ["part f x", "test x 99", "jump 7"]),
            ((("f", ("x",), (("test", "x", -1), ("jump", -20))),), ["part f x", "test x -1", "jump -20"]),
        ]:
            with self.assertRaises(NoProgram):
                check(program)
            self.writes(program, lines)

    def test_goals_of_any_size(self):
        for to in (10 ** 18 - 1, 10 ** 18, 10 ** 18 + 1, 10 ** 36, 10 ** 36 + 10 ** 18, 2 ** 64, 2 ** 64 + 5, 10 ** 300):
            for goal in (to, -to):
                self.writes((("f", ("x",), (("jump", goal), ("test", "x", goal))),),
                            ["part f x", f"jump {goal}", f"test x {goal}"])
        self.writes((("f", (), (("jump", 7 * 10 ** 6000),)),), ["part f", "jump 7" + "0" * 6000])

    def test_somewhat_beyond_the_bounds(self):
        rows = (("say", "x"),) * 300
        self.writes(tuple(("f", ("x",) * 9, rows) for k in range(9)), (["part f" + " x" * 9] + ["say x"] * 300) * 9)

    def test_what_is_read_is_written_to_the_same_text_again(self):
        text = "part f x\none = 1\ny = x - one\ntest y 4\ngive one\nz = call g y one\nsay z\njump 3\n" \
               "part g a b\nc = a * b\ngive c"
        self.assertEqual(write(read(text)), text)


if __name__ == "__main__":
    unittest.main()

import itertools
import unittest

from beltgarth.errors import BeltError, NoLine, NoProgram, Short
from beltgarth.reader import read
from beltgarth.writer import write

# What is behind part f x, so that each of these is line 1; the text is let by.
GOOD_LINES = [
    ("y = 5", ("num", "y", 5)),
    ("y = 0", ("num", "y", 0)),
    ("y = 18446744073709551615", ("num", "y", 2 ** 64 - 1)),
    ("y = 10000000000000000000", ("num", "y", 10 ** 19)),
    ("y = x + x", ("op", "y", "+", "x", "x")),
    ("y = x - x", ("op", "y", "-", "x", "x")),
    ("y = x * x", ("op", "y", "*", "x", "x")),
    ("y = x < x", ("op", "y", "<", "x", "x")),
    ("y = x = x", ("op", "y", "=", "x", "x")),
    ("y = call f x", ("call", "y", 0, ("x",))),
    ("y = call g", ("call", "y", 1, ())),
    ("y = call h x x x", ("call", "y", 2, ("x", "x", "x"))),
    ("say x", ("say", "x")),
    ("jump 1", ("jump", 1)),
    ("test x 0", ("test", "x", 0)),
    ("test x 1", ("test", "x", 1)),
    ("give x", ("give", "x")),
    ("abcdefgh = 1", ("num", "abcdefgh", 1)),
    ("num = 1", ("num", "num", 1)),
    ("op = x + x", ("op", "op", "+", "x", "x")),
    ("parts = 1", ("num", "parts", 1)),
    ("par = 1", ("num", "par", 1)),
]

NO_NAMES = ["", "part", "call", "say", "jump", "test", "give", "abcdefghi", "A", "aB", "a1", "1", "0", "a_b", "_", "-", "a-",
            "+", "=", "a.b", "~", "!", "a,", "`", "{", "a`", "a{", "@", "[", "\u00e4", "a\u00df", "\t", "a\t", "a\r"]

NO_NUMBERS = ["", "00", "01", "007", "-1", "+1", "-0", "1_0", "1.0", "1e3", "0x1", "a", "1a", "1 ", "/", ":", "0/", "\u0663",
              "\u00b2", "\t1", "1\r", "100000000000000000000", "000000000000000000001", "99999999999999999999999", "9" * 500]

TAIL = ["give x", "part g", "z = 1", "give z", "part h a b c", "give a"]


def text(lines):
    return "\n".join(lines)


def refused(thing):
    """What the refusal tells: a line's number, or (part, row, word); AssertionError where there is none."""
    try:
        told = read(thing)
    except NoLine as error:
        return error.line
    except NoProgram as error:
        return (error.part, error.row, error.word)
    raise AssertionError(f"read told {told!r}")


class ReadTest(unittest.TestCase):
    def reads(self, lines, program):
        told = read(text(lines))
        self.assertEqual(told, program)
        self.all_tuples(told)
        self.assertEqual(read(text(lines)), program)

    def all_tuples(self, thing):
        if isinstance(thing, tuple):
            for one in thing:
                self.all_tuples(one)
        else:
            self.assertIn(type(thing), (int, str))

    def no_line(self, lines, line):
        self.assertEqual(refused(text(lines)), line, lines)
        self.assertIs(type(refused(text(lines))), int)

    def no_line_for(self, line):
        """As line 1 of a text that is well written else, behind it, and as its last one."""
        self.no_line(["part f x", line] + TAIL, 1)
        self.no_line(["part f x"] + TAIL[:2] + [line] + TAIL[2:], 3)
        self.no_line(["part f x"] + TAIL + [line], 7)


class GoodTextTest(ReadTest):
    def test_each_line(self):
        for line, row in GOOD_LINES:
            with self.subTest(line=line):
                self.reads(["part f x", line] + TAIL,
                           (("f", ("x",), (row, ("give", "x"))), ("g", (), (("num", "z", 1), ("give", "z"))),
                            ("h", ("a", "b", "c"), (("give", "a"),))))

    def test_one_part_of_one_row(self):
        self.reads(["part f x", "give x"], (("f", ("x",), (("give", "x"),)),))

    def test_parts_without_params_and_with_many(self):
        self.reads(["part f", "a = 1", "give a"], (("f", (), (("num", "a", 1), ("give", "a"))),))
        params = ("d", "b", "a", "c")
        self.reads(["part f d b a c", "give a"], (("f", params, (("give", "a"),)),))
        self.reads(["part num op x"] + ["give x"], (("num", ("op", "x"), (("give", "x"),)),))

    def test_calls_of_parts_ahead_and_behind(self):
        self.reads(["part f", "x = call h", "x = call f", "give x", "part h", "x = call f", "x = call h", "give x"],
                   (("f", (), (("call", "x", 1, ()), ("call", "x", 0, ()), ("give", "x"))),
                    ("h", (), (("call", "x", 0, ()), ("call", "x", 1, ()), ("give", "x")))))

    def test_names_of_rows_params_and_parts_may_be_alike(self):
        self.reads(["part f f", "f = call f f", "give f"], (("f", ("f",), (("call", "f", 0, ("f",)), ("give", "f"))),))

    def test_more_parts_params_and_rows_than_programs_have(self):
        rows = tuple(("test", "x", n) for n in range(500))
        self.reads(["part f x"] + [f"test x {n}" for n in range(500)] + ["give x"], (("f", ("x",), rows + (("give", "x"),)),))
        names = [chr(97 + n) + chr(97 + m) for n in range(20) for m in range(20)]
        self.reads([line for name in names for line in (f"part {name} x", "give x")],
                   tuple((name, ("x",), (("give", "x"),)) for name in names))
        self.reads(["part f " + " ".join(names), "x = call f " + " ".join(names), "give x"],
                   (("f", tuple(names), (("call", "x", 0, tuple(names)), ("give", "x"))),))

    def test_texts_of_8000_signs(self):
        for line, row in (("say x", ("say", "x")), ("x = 5", ("num", "x", 5)), ("jump 1111", ("jump", 1111))):
            many = (8000 - len("part f x\n\ngive x")) // (len(line) + 1)
            lines = ["part f x"] + [line] * many + ["give x"]
            self.assertLessEqual(len(text(lines)), 8000)
            if row[0] == "jump":
                self.assertEqual(refused(text(lines)), (0, 0, "row"))
            else:
                self.reads(lines, (("f", ("x",), (row,) * many + (("give", "x"),)),))

    def test_each_name_of_one_and_of_eight_letters(self):
        for letter in "abcdefghijklmnopqrstuvwxyz":
            for name in (letter, letter * 8, "a" + letter, letter + "z"):
                self.reads([f"part {name} {name}", f"give {name}"], ((name, (name,), (("give", name),)),))


class AgainTest(ReadTest):
    """What is written is read to the same program again."""

    def test_programs_that_are_let_by(self):
        call = ("call", "y", 1, ("x", "x"))
        words = [("num", "y", 0), ("num", "y", 2 ** 64 - 1), ("op", "y", "=", "y", "x"), ("op", "x", "<", "x", "y"), call,
                 ("say", "x"), ("test", "y", 4), ("test", "x", 1), ("jump", 5)]
        other = ("other", ("a", "b"), (("call", "c", 0, ("b", "a")), ("give", "c")))
        for rows in itertools.product(words, repeat=3):
            program = (("main", ("x", "y"), (rows[0], rows[1], rows[2], ("say", "y"), ("test", "x", 0), ("give", "y"))), other)
            self.reads(write(program).split("\n"), program)

    def test_five_parts_of_24_rows(self):
        names = ("a", "b", "c", "d", "e")
        rows = tuple(("call", "x", k, ("x",) * k) for k in range(5)) * 4 + (("test", "x", 23), ("say", "x"), ("jump", 23))
        program = tuple((names[k], ("p", "q", "r", "s")[:k], (("num", "x", k),) + rows[:22] + (("give", "x"),))
                        for k in range(5))
        self.reads(write(program).split("\n"), program)


class FormTest(ReadTest):
    def test_lines_that_are_none(self):
        for line in ["x", "x =", "x = ", "= 5", "x 5", "x == 5", "x=5", "x= 5", "x =5", "x = -5", "x = a", "x = a +",
                     "x = a b", "x = + a", "x = a + b + c", "x = a + b c", "x = a / b", "x = a ** b", "x = a > b", "x = a <= b",
                     "x = a +b", "x = 1 + a", "x = a + 1", "x = call", "x = call ", "x = Call f", "y = call f 5",
                     "y = call call", "y = call f call", "y = call + x", "y = call = x", "say", "say ", "say 5", "say x x",
                     "Say x", "says x", "jump", "jump x", "jump 1 1", "jump -1", "Jump 1", "test", "test x", "test 1",
                     "test x x", "test 1 1", "test x 1 1", "give", "give 5", "give x x", "return x", "part", "part ",
                     "part 5", "part f 5", "part f f x 1", "PART f", "num x 5", "op x + a b", "x = num 5", "# x", "5", "...",
                     "call f x", "call x 0 x", "x = = x", "= = =", "x = x = x = x", "x = 5 5", "y = x f x", "y = say f x",
                     "y = a f x", "y = calls f x", "tests x 1", "u x 1", "a x 1", "let x 1", "gives x", "jumps 1", "a 1", "z 1",
                     "parts x", "a x", "z x"]:
            with self.subTest(line=line):
                self.no_line_for(line)

    def test_blanks_ahead_behind_and_two_between(self):
        for line, row in GOOD_LINES + [("part k", None), ("part k x", None)]:
            for other in (" " + line, line + " ", "  " + line, line + "  ", line.replace(" ", "  "), line.replace(" ", "\t"),
                          line.replace(" ", "  ", 1), line.replace(" ", ""), line.upper()):
                with self.subTest(line=other):
                    self.no_line_for(other)

    def test_a_word_more_and_a_word_fewer(self):
        for line, row in GOOD_LINES:
            words = line.split(" ")
            if row[0] != "call":
                with self.subTest(line=line):
                    self.no_line_for(line + " x")
                    self.no_line_for(line + " 1")
                    self.no_line_for("x " + line)
                    self.no_line_for(" ".join(words[:-1]))
                    self.no_line_for(" ".join(words[1:]))

    def test_words_that_are_no_names(self):
        for name in NO_NAMES:
            for line in (f"{name} = 5", f"{name} = x + x", f"y = {name} + x", f"y = x + {name}", f"{name} = call f x",
                         f"y = call {name} x", f"y = call f {name}", f"y = call h x {name} x", f"say {name}",
                         f"test {name} 0", f"give {name}", f"part {name}", f"part {name} x", f"part k {name}",
                         f"part k x {name} y"):
                with self.subTest(line=line):
                    self.no_line_for(line)

    def test_words_that_are_no_numbers(self):
        for number in NO_NUMBERS:
            for line in (f"y = {number}", f"jump {number}", f"test x {number}"):
                with self.subTest(line=line):
                    self.no_line_for(line)

    def test_worths_that_are_too_great(self):
        for number in (2 ** 64, 2 ** 64 + 1, 10 ** 20 - 1, 10 ** 20):
            self.no_line_for(f"y = {number}")

    def test_goals_of_up_to_20_figures_are_numbers(self):
        for to in (3, 10, 2 ** 64 - 1, 2 ** 64, 10 ** 19, 10 ** 20 - 1):
            for line in (f"jump {to}", f"test x {to}"):
                self.assertEqual(refused(text(["part f x", "say x", line, "give x"])), (0, 1, "row"))
        for to in (10 ** 20, 10 ** 21):
            for line in (f"jump {to}", f"test x {to}"):
                self.no_line(["part f x", "say x", line, "give x"], 2)


class PlaceTest(ReadTest):
    def test_a_text_without_signs(self):
        self.no_line([""], 0)
        self.assertEqual(refused(""), 0)

    def test_empty_lines(self):
        good = ["part f x", "say x", "give x", "part g x", "give x"]
        read(text(good))
        for n in range(len(good) + 1):
            self.no_line(good[:n] + [""] + good[n:], n)
            self.no_line(good[:n] + ["", ""] + good[n:], n)
            self.no_line(good[:n] + [" "] + good[n:], n)
        self.assertEqual(refused("\n"), 0)
        self.assertEqual(refused(" "), 0)
        self.assertEqual(refused("part f x\ngive x\n"), 2)

    def test_other_row_ends_are_none(self):
        for end in ("\r\n", "\r", "\x0b", "\x0c", "\u2028"):
            self.assertEqual(refused("part f x" + end + "give x"), 0)

    def test_a_row_ahead_of_the_first_part(self):
        for line, row in GOOD_LINES:
            self.no_line([line, "part f x", "give x"], 0)
            self.no_line([line], 0)
            self.no_line([line, "?", "part f x"], 0)
        self.no_line(["?", "say x", "part f x", "give x"], 0)

    def test_the_first_line_that_is_none(self):
        good = ["part f x", "say x", "y = 5", "give x", "part g", "z = 1", "give z"]
        for n in range(1, len(good)):
            self.no_line(good[:n] + ["x = "] + good[n:], n)
            for m in range(n, len(good)):
                self.no_line(good[:n] + ["x = "] + good[n:m] + ["jump -1"] + good[m:], n)

    def test_a_line_that_is_none_is_told_ahead_of_what_is_not_let_by(self):
        self.no_line(["part f x", "jump 99", "part f x x", "give y", "x = ", "give x"], 4)


class CallTest(ReadTest):
    def test_a_call_of_a_name_that_no_part_has(self):
        self.no_line(["part f x", "y = call g x", "give y"], 1)
        self.no_line(["part f x", "say x", "y = call x x", "give y"], 2)
        self.no_line(["part f x", "y = call ff", "give y", "part fff", "give y"], 1)

    def test_the_first_of_several(self):
        self.no_line(["part f x", "y = call f x", "y = call g x", "y = call h x", "give y"], 2)
        self.no_line(["part f x", "y = call g x", "give y", "part g x", "y = call h x", "give y"], 4)

    def test_a_bad_line_ahead_of_the_call_and_behind_it(self):
        self.no_line(["part f x", "y = ", "y = call g x", "give y"], 1)
        self.no_line(["part f x", "y = call g x", "y = ", "give y"], 2)
        self.no_line(["part f x", "y = call g x", "give y", "part h", "x = call k", "give x "], 5)
        self.no_line(["part f x", "y = call g x", "give y", ""], 3)

    def test_a_call_of_what_is_no_name_is_a_bad_line(self):
        for name in ("F", "5", "call", "ninesigns"):
            self.no_line(["part f x", f"y = call {name} x", "y = ", "give y"], 1)
            self.no_line(["part f x", "y = call g x", f"y = call {name} x", "give y"], 2)

    def test_a_call_of_no_part_is_told_ahead_of_what_is_not_let_by(self):
        self.no_line(["part f x x", "jump 99", "part f", "y = call g x", "give y"], 3)
        self.no_line(["part f x", "give x", "y = call g x", "give y"], 2)

    def test_parts_of_one_name(self):
        """The first is meant, and the name is refused; the fields tell which part was called."""
        self.assertEqual(refused(text(["part f x", "give x", "part f", "y = 1", "give y"])), (1, 0, "name"))
        self.assertEqual(refused(text(["part g", "y = call f", "give y", "part f", "y = 1", "give y", "part f x", "give x"])),
                         (2, 0, "name"))
        self.assertEqual(refused(text(["part g", "y = call f", "give y", "part f x", "give x", "part f", "y = 1", "give y"])),
                         (0, 0, "row"))


class NotLetByTest(ReadTest):
    def test_each_word(self):
        for lines, due in [
            (["part f x x", "give x"], (0, 0, "name")),
            (["part f x", "give x", "part g y", "say y", "part f x", "give x"], (1, 0, "row")),
            (["part f x", "give x", "part g y", "give y", "part f x", "give x"], (2, 0, "name")),
            (["part f"], (0, 0, "row")),
            (["part f x", "give x", "part g"], (1, 0, "row")),
            (["part f", "part g x", "give x"], (0, 0, "row")),
            (["part f x", "say x"], (0, 0, "row")),
            (["part f x", "say x", "test x 2", "give x", "jump 4"], (0, 3, "row")),
            (["part f x", "say x", "y = call f", "give x"], (0, 1, "row")),
            (["part f x", "say x", "y = call f x x", "give x"], (0, 1, "row")),
            (["part f x", "say x", "jump 1"], (0, 1, "ring")),
            (["part f x", "give x", "part g", "z = 1", "jump 3", "give z", "jump 1"], (1, 1, "ring")),
            (["part f x", "say x", "give y"], (0, 1, "unset")),
            (["part f x", "give x", "part g a", "test a 2", "x = 3", "give x"], (1, 2, "unset")),
        ]:
            with self.subTest(lines=lines):
                self.assertEqual(refused(text(lines)), due)

    def test_more_rows_than_programs_have(self):
        self.assertEqual(refused(text(["part f x"] + ["say x"] * 900 + ["give y"])), (0, 900, "unset"))

    def test_the_refusals_are_belt_errors_of_their_own(self):
        for thing, kind in (("", NoLine), ("part f\nx = call g\ngive x", NoLine), ("part f", NoProgram)):
            with self.assertRaises(BeltError) as taken:
                read(thing)
            self.assertIs(type(taken.exception), kind)
            self.assertNotIsInstance(taken.exception, Short)

    def test_a_good_text_behind_a_refused_one(self):
        good = ["part g", "x = 1", "give x"]
        program = (("g", (), (("num", "x", 1), ("give", "x"))),)
        for bad in (["part g", "x = call h", "give x"], ["part h", "y = 1", "give y", "x ="], [""], ["part g", "give y"]):
            refused(text(bad))
            self.reads(good, program)
            first = refused(text(bad))
            self.assertEqual(refused(text(bad)), first)
        # A part of a text that was read is none of the next one's.
        self.reads(["part h", "y = 1", "give y"], (("h", (), (("num", "y", 1), ("give", "y"))),))
        self.no_line(["part g", "x = call h", "give x"], 1)


if __name__ == "__main__":
    unittest.main()

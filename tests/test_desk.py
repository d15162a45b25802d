import random
import unittest

import by_words
from beltgarth.desk import shown, told
from beltgarth.errors import NoLine, NoProgram
from beltgarth.maker import made
from beltgarth.pieces import short
from beltgarth.writer import write
from programs import BACK, COUNT, FACT, FALLS, JUMPS, LOOP, PROGRAMS, random_program

BIG = 10 ** 40


def told_by_words(program, places):
    found = by_words.short(program, places)
    if found is not None:
        return " ".join(("short", program[found[0]][0], str(found[1]), found[2]) + found[3])
    lines = []
    for part in program:
        rows, words = part[2], [part[0]]
        first = by_words.standing(rows, 0)
        for head in [first] + [n for n in by_words.heads(rows) if n != first]:
            numbers, to = by_words.piece(rows, head)
            works = by_words.works(rows, numbers)
            end = None if to is None else by_words.order(part, to, places)
            last = [name for name in end or () if name is not None]
            words.append(f"{head}={by_words.fewest_number(by_words.order(part, head, places), works, last, end)}")
        lines.append(" ".join(words))
    return "\n".join(lines)


class ToldTest(unittest.TestCase):
    def tells(self, text, places, answer):
        self.assertEqual(told(text, places), answer)
        self.assertIs(type(told(text, places)), str)

    def test_one_part(self):
        self.tells("part f x\ngive x", 1, "f 0=0")
        self.tells("part f x\ngive x", 5, "f 0=0")
        self.tells(write(LOOP), 2, "loop 0=0")
        self.tells(write(BACK), 4, "back 0=0")
        self.tells(write(BACK), 5, "back 0=0")

    def test_several_parts(self):
        self.tells(write(FACT), 3, "fact 0=0 3=1\ntimes 0=0")
        self.tells("part f\nx = 1\ngive x\npart g\ny = call f\ngive y\npart h a\ngive a", 1, "f 0=0\ng 0=0\nh 0=0")

    def test_the_begin_s_head_first_and_the_others_rising(self):
        self.tells(write(JUMPS), 3, "main 4=1 1=0 7=0 10=0\nother 3=0 2=0")
        self.tells(write(FALLS), 3, "falls 2=0 1=0")
        self.tells(write(COUNT), 4, told_by_words(COUNT, 4))
        self.assertEqual([word.split("=")[0] for word in told(write(COUNT), 4).split(" ")], ["count", "0", "2", "4"])

    def test_keeps_of_landings_are_not_told(self):
        text = "part f a b\nsay a\nsay b\njump 0"
        # The args come in as b a and are turned ahead of the piece; the piece itself needs no keep.
        self.tells(text, 3, "f 0=0")

    def test_short(self):
        self.tells(write(BACK), 1, "short back 0 begin a b")
        self.tells(write(BACK), 2, "short back 0 begin a")
        self.tells(write(BACK), 3, "short back 0 head a b c")
        self.tells(write(COUNT), 3, "short count 2 head one sum x")
        self.tells("part f x\ny = 1\ngive x", 1, "short f 0 behind x")

    def test_short_in_a_later_part(self):
        self.tells("part f x\ngive x\npart other b a\nsay a\ngive b", 1, "short other 0 begin b")
        self.tells("part f x\ngive x\npart other b a\nsay a\ngive b", 2, "f 0=0\nother 0=0")

    def test_no_short_raised(self):
        for places in range(1, 6):
            for program in PROGRAMS:
                self.tells(write(program), places, told_by_words(program, places))

    def test_texts_that_are_no_lines(self):
        for text, line in [("", 0), ("give x", 0), ("part f x\ngive x\n", 2), ("part f\nx = call g\ngive x", 1),
                           ("part f x\nsay  x\ngive x", 1)]:
            for places in (1, 5):
                with self.assertRaises(NoLine) as caught:
                    told(text, places)
                self.assertEqual(caught.exception.line, line)

    def test_texts_that_are_no_programs(self):
        for text, fields in [("part f x x\ngive x", (0, 0, "name")), ("part f x\nsay x", (0, 0, "row")),
                             ("part f x\ngive x\njump 1", (0, 1, "ring")), ("part f x\ngive x\npart g\ngive x", (1, 0, "unset"))]:
            for places in (1, 5):
                with self.assertRaises(NoProgram) as caught:
                    told(text, places)
                error = caught.exception
                self.assertEqual((error.part, error.row, error.word), fields)

    def test_against_the_words(self):
        chance = random.Random(8)
        shorts = 0
        for n in range(80):
            program = random_program(chance, chance.randint(1, 5), chance.choice([5, 10, 24]))
            for places in range(1, 6):
                shorts += short(program, places) is not None
                self.tells(write(program), places, told_by_words(program, places))
        self.assertTrue(100 < shorts < 300)

    def test_a_long_text(self):
        lines = ["part f x y"] + [f"test {'xy'[n % 2]} {n * 7 % 500}" for n in range(500)] + ["give y"]
        words = told("\n".join(lines), 5).split(" ")
        self.assertEqual(words[0], "f")
        self.assertEqual([word.split("=")[0] for word in words[1:]], [str(n) for n in range(500)])
        lines = ["part f a b c d"] + [f"say {'abcd'[n * n % 7 % 4]}" for n in range(1300)] + ["give a"]
        self.tells("\n".join(lines), 5, "f 0=0")


class ShownTest(unittest.TestCase):
    def shows(self, code, text):
        self.assertEqual(shown(code), text)
        self.assertEqual(shown(code), text)

    def test_each_word(self):
        rows = (("num", 5), ("op", "+", 0, 1), ("call", 2, (0, 3)), ("say", 0), ("jump", 4), ("test", 0, 4), ("give", 0),
                ("keep", 3))
        self.shows((4, ((2, rows),)), "belt 4\npart 2\nnum 5\nop + 0 1\ncall 2 0 3\nsay 0\njump 4\ntest 0 4\ngive 0\nkeep 3")

    def test_signs(self):
        rows = tuple(("op", s, 2, 0) for s in "+-*<=")
        self.shows((3, ((0, rows),)), "belt 3\npart 0\nop + 2 0\nop - 2 0\nop * 2 0\nop < 2 0\nop = 2 0")

    def test_calls_without_and_with_many_places(self):
        self.shows((1, ((0, (("call", 0, ()), ("call", 1, (5,)), ("call", 2, (3, 2, 1, 0)))),)),
                   "belt 1\npart 0\ncall 0\ncall 1 5\ncall 2 3 2 1 0")

    def test_several_parts_and_none(self):
        self.shows((2, ((0, (("give", 0),)), (1, ()), (4, (("keep", 1), ("give", 1))))),
                   "belt 2\npart 0\ngive 0\npart 1\npart 4\nkeep 1\ngive 1")
        self.shows((16, ()), "belt 16")

    def test_code_that_does_not_fit(self):
        self.shows((0, ()), "belt 0")
        self.shows((-3, ((-1, (("keep", -2), ("jump", -7), ("test", 99, -1), ("call", -4, (-5, 6)))),)),
                   "belt -3\npart -1\nkeep -2\njump -7\ntest 99 -1\ncall -4 -5 6")
        self.shows((BIG, ((BIG, (("op", "-", BIG, -BIG), ("say", BIG))),)),
                   f"belt {BIG}\npart {BIG}\nop - {BIG} -{BIG}\nsay {BIG}")

    def test_numbers_of_many_figures(self):
        text = "9" * 5000
        number = 0
        for n in range(5000):
            number = number * 10 + 9
        self.shows((1, ((0, (("jump", number), ("num", 2 ** 64 - 1), ("num", 0))),)),
                   f"belt 1\npart 0\njump {text}\nnum 18446744073709551615\nnum 0")

    def test_made_code(self):
        code, papers = made(LOOP, 2)
        self.shows(code, "belt 2\npart 1\nsay 0\njump 0")


if __name__ == "__main__":
    unittest.main()

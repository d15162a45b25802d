import copy
import itertools
import random
import unittest

import by_words
from beltgarth.checks import check
from beltgarth.codes import fits
from beltgarth.errors import BeltError, NoProgram, Short
from beltgarth.fewest import fewest, fewest_to
from beltgarth.looker import wrong
from beltgarth.machine import Machine, run_belt
from beltgarth.maker import keeps, made
from beltgarth.pieces import heads, led_to, order, piece, short
from beltgarth.plain import Walk, run
from beltgarth.reader import read
from programs import BACK, COUNT, FACT, FALLS, JUMPS, LOOP, PROGRAMS, random_program


def names_in(order_told):
    return tuple(name for name in order_told if name is not None)


class MakerTest(unittest.TestCase):
    def makes(self, program, places):
        """The pair, or None where it is short; and all that the document says of it."""
        before = copy.deepcopy(program)
        told = by_words.short(program, places)
        self.assertEqual(short(program, places), told)
        if told is not None:
            self.refuses(program, places, told)
            pair = None
        else:
            pair = made(program, places)
            self.assertEqual(made(program, places), pair)
            self.has_the_form(program, places, pair)
            self.is_let_by(program, pair)
            for k, part in enumerate(program):
                self.has_the_pieces(part, places, pair[0][1][k][1], pair[1][k])
        self.assertEqual(program, before)
        return pair

    def refuses(self, program, places, told):
        with self.assertRaises(Short) as caught:
            made(program, places)
        error = caught.exception
        self.assertIsInstance(error, BeltError)
        self.assertEqual((error.part, error.row, error.word, error.names), told)
        self.assertIs(type(error.names), tuple)

    def has_the_form(self, program, places, pair):
        self.assertIs(type(pair), tuple)
        code, papers = pair
        self.assertIs(type(code), tuple)
        self.assertEqual(code[0], places)
        self.assertIs(type(code[1]), tuple)
        self.assertEqual([part[0] for part in code[1]], [len(part[1]) for part in program])
        self.assertIs(type(papers), tuple)
        self.assertEqual(len(papers), len(program))
        for part, mine, told in zip(program, code[1], papers):
            self.assertEqual([type(thing) for thing in (mine, mine[1], told)], [tuple] * 3)
            self.assertEqual(len(mine[1]), len(told))
            for row, paper in zip(mine[1], told):
                self.assertEqual([type(thing) for thing in (row, paper, paper[0], paper[1])], [tuple, tuple, int, tuple])
                self.assertEqual(len(paper[1]), places)
                # Names as seen: what isn't wanted is None, what is wanted lies there once.
                self.assertEqual(tuple(sorted(names_in(paper[1]))), by_words.wanted(part[2], paper[0]), (row, paper))

    def is_let_by(self, program, pair):
        self.assertTrue(fits(pair[0]))
        self.assertIsNone(wrong(program, pair[0], pair[1]))

    def follow(self, codes, papers, m, head):
        """Past keeps and jumps to where a piece begins, its head's names in their order: the row, and how many keeps."""
        many = 0
        while papers[m] != head:
            self.assertIn(codes[m][0], ("keep", "jump"))
            many += codes[m][0] == "keep"
            m = m + 1 if codes[m][0] == "keep" else codes[m][1]
        while codes[m][0] == "jump":
            m = codes[m][1]
        return m, many

    def has_the_pieces(self, part, places, codes, papers):
        """Point 31: each piece and each landing with the fewest keeps, and nothing else."""
        rows = part[2]
        tops = {n: (n, by_words.order(part, n, places)) for n in by_words.heads(rows)}
        first = by_words.standing(rows, 0)
        begins, total = {}, 0
        args = by_words.args_belt(part[1], places)
        begins[first], many = self.follow(codes, papers, 0, tops[first])
        self.assertEqual(many, by_words.fewest_number(args, (), names_in(tops[first][1]), tops[first][1])
                         if first in by_words.led_to(rows) else 0)
        total += many
        waiting, passed = [first], set()
        while waiting:
            head = waiting.pop()
            if head in passed:
                continue
            passed.add(head)
            many, goals = self.piece_followed(part, places, codes, papers, begins[head], tops, head)
            total += many
            for to, m in goals:
                self.assertEqual(begins.setdefault(to, m), m)
                waiting.append(to)
        self.assertEqual(passed, set(tops))
        self.assertEqual(total, [row[0] for row in codes].count("keep"))
        done = [paper[0] for row, paper in zip(codes, papers) if row[0] not in ("keep", "jump")]
        self.assertEqual(sorted(done), sorted(by_words.come(rows)))
        # The begin's head first, the others rising.
        in_order = [first] + [n for n in sorted(tops) if n != first]
        self.assertEqual(sorted(begins, key=begins.get), in_order)

    def piece_followed(self, part, places, codes, papers, m, tops, head):
        """The keeps of the piece and of its landings, and the heads to which it leads with the rows of their pieces."""
        rows, (numbers, to) = part[2], by_words.piece(part[2], head)
        works = by_words.works(rows, numbers)
        many, landed, goals = 0, 0, []
        self.assertEqual(papers[m], tops[head])
        for n in numbers:
            while codes[m][0] in ("keep", "jump"):
                many += codes[m][0] == "keep"
                m = m + 1 if codes[m][0] == "keep" else codes[m][1]
            self.assertEqual(papers[m][0], n)
            if codes[m][0] == "test":
                led = by_words.standing(rows, rows[n][2])
                begin, more = self.follow(codes, papers, codes[m][2], tops[led])
                self.assertEqual(more, by_words.fewest_number(papers[m][1], (), names_in(tops[led][1]), tops[led][1]))
                # Where no keep is needed, the test leads to the piece itself.
                self.assertTrue(more > 0 or codes[m][2] == begin)
                landed += more
                goals.append((led, begin))
            m += 1
        if to is None:
            self.assertEqual(many, by_words.fewest_number(tops[head][1], works, ()))
        else:
            begin, more = self.follow(codes, papers, m, tops[to])
            many += more
            self.assertEqual(many, by_words.fewest_number(tops[head][1], works, names_in(tops[to][1]), tops[to][1]))
            goals.append((to, begin))
        return many + landed, goals

    def runs_alike(self, program, pair, part, args, most=60):
        """Point 3 (a): step by step, in all frames."""
        code, papers = pair
        walk, machine = Walk(program, part, args), Machine(code, part, args)
        for n in range(most):
            plain, belts = walk.frames(), machine.frames()
            self.assertEqual((walk.said(), walk.answer()), (machine.said(), machine.answer()))
            self.assertEqual(len(plain), len(belts))
            for (p, row, names), (q, m, belt) in zip(plain, belts):
                self.assertEqual((p, row), (q, papers[q][m][0]))
                for name, thing in zip(papers[q][m][1], belt):
                    self.assertTrue(name is None or names[name] == thing)
            if plain == []:
                break
            walk.step()
            machine.step()
        for budget in (0, 1, 7, most):
            self.assertEqual(run(program, part, args, budget), run_belt(code, part, args, budget))


class MadeTest(MakerTest):
    def test_the_examples(self):
        least = {COUNT: 4, FACT: 3, JUMPS: 3, LOOP: 2, FALLS: 3, BACK: 4}
        for program in PROGRAMS:
            for places in range(1, 6):
                pair = self.makes(program, places)
                self.assertEqual(pair is not None, places >= least[program])
                if pair is not None:
                    for k, part in enumerate(program):
                        for args in itertools.product((0, 1, 3, 2 ** 64 - 1), repeat=len(part[1])):
                            self.runs_alike(program, pair, k, args)

    def test_one_row(self):
        program = (("f", ("x",), (("give", "x"),)),)
        for places in range(1, 6):
            none = (None,) * (places - 1)
            self.assertEqual(self.makes(program, places), ((places, ((1, (("give", 0),)),)), (((0, ("x",) + none),),)))

    def test_rows_of_each_word_without_a_keep(self):
        program = (("f", ("a", "b"), (("op", "c", "-", "a", "b"), ("call", "d", 1, ("c", "b", "c")), ("say", "d"),
                                      ("num", "e", 7), ("op", "e", "<", "e", "d"), ("give", "e"))),
                   ("g", ("x", "y", "z"), (("give", "z"),)))
        self.assertEqual(self.makes(program, 3), (
            (3, ((2, (("op", "-", 1, 0), ("call", 1, (0, 1, 0)), ("say", 0), ("num", 7), ("op", "<", 0, 1), ("give", 0))),
                 (3, (("give", 0),)))),
            (((0, ("b", "a", None)), (1, ("c", "b", None)), (2, ("d", None, None)), (3, ("d", None, None)),
              (4, ("e", "d", None)), (5, ("e", None, None))),
             ((0, ("z", None, None)),)),
        ))

    def test_a_loop_with_its_begin_led_to(self):
        code, papers = self.makes(LOOP, 2)
        self.assertEqual(papers[0][0], (0, ("x", None)))
        self.assertEqual(keeps(code), [0])
        self.assertEqual([row[0] for row in code[1][0][1]].count("say"), 1)

    def test_a_landing_ahead_of_all_from_the_args_to_the_order(self):
        program = (("f", ("a", "b"), (("say", "a"), ("say", "b"), ("jump", 0))),)
        code, papers = self.makes(program, 3)
        # The args come in as b a; the order is a b.
        self.assertEqual(code[1][0][1][:2], (("keep", 1), ("say", 0)))
        self.assertEqual(papers[0][:2], ((0, ("b", "a", None)), (0, ("a", "b", None))))
        self.assertEqual(keeps(code), [1])

    def test_params_that_fall_off_and_are_not_wanted(self):
        program = (("f", ("a", "b", "c", "d"), (("say", "d"), ("give", "c"))),)
        self.assertIsNotNone(self.makes(program, 2))
        self.refuses(program, 1, (0, 0, "begin", ("c",)))

    def test_landings(self):
        program = (("f", ("b", "a"), (("test", "a", 3), ("test", "b", 3), ("give", "a"), ("say", "b"), ("give", "a"))),)
        code, papers = self.makes(program, 3)
        # Both tests lead to the order a b, which lies there already: no landing.
        self.assertEqual(keeps(code), [0])
        program = (("f", ("a", "b"), (("test", "a", 3), ("test", "b", 3), ("give", "a"), ("say", "b"), ("give", "a"))),)
        code, papers = self.makes(program, 3)
        # The args come in as b a: each test has a landing of its own.
        self.assertEqual(keeps(code), [2])

    def test_a_test_that_leads_to_the_next_row(self):
        for program in [(("f", ("x",), (("test", "x", 1), ("give", "x"))),),
                        (("f", ("x",), (("test", "x", 2), ("jump", 2), ("give", "x"))),),
                        (("f", ("x",), (("test", "x", 0), ("jump", 0))),)]:
            pair = self.makes(program, 2)
            self.runs_alike(program, pair, 0, (1,))
            self.runs_alike(program, pair, 0, (0,))

    def test_rows_that_are_not_come_to_are_not_made(self):
        program = (("f", ("x",), (("give", "x"), ("say", "x"), ("num", "y", 1), ("jump", 1))),)
        self.assertEqual(self.makes(program, 1)[0], (1, ((1, (("give", 0),)),)))

    def test_small_parts_of_all_forms(self):
        words = [("num", "a", 1), ("op", "b", "+", "a", "b"), ("call", "a", 0, ("b", "a")), ("say", "b"), ("test", "a", 0),
                 ("test", "b", 4), ("jump", 2), ("jump", 3)]
        made_on = {2: 0, 3: 0}
        for rows in itertools.product(words, repeat=3):
            program = (("f", ("b", "a"), (rows[0],) + rows[1:] + (("say", "a"), ("give", "b"))),)
            try:
                check(program)
            except NoProgram:
                continue
            for places in (2, 3):
                pair = self.makes(program, places)
                if pair is not None:
                    made_on[places] += 1
                    self.runs_alike(program, pair, 0, (2, 1), 12)
        self.assertGreater(made_on[2], 30)
        self.assertGreater(made_on[3], 300)


class RefusedTest(MakerTest):
    def test_each_word(self):
        self.refuses(BACK, 2, (0, 0, "begin", ("a",)))
        self.refuses(BACK, 3, (0, 0, "head", ("a", "b", "c")))
        self.refuses((("f", ("x",), (("num", "y", 1), ("give", "x"))),), 1, (0, 0, "behind", ("x",)))
        self.refuses(FACT, 1, (0, 0, "behind", ("x",)))

    def test_a_later_part(self):
        part = ("g", ("a", "b"), (("op", "a", "+", "b", "a"), ("say", "b"), ("give", "a")))
        good = ("f", ("x",), (("give", "x"),))
        self.refuses((good, part), 1, (1, 0, "begin", ("a",)))
        self.refuses((good, good[:0] + ("h",) + good[1:], part), 1, (2, 0, "begin", ("a",)))


class ChanceTest(MakerTest):
    def test_programs_of_up_to_five_parts_and_24_rows(self):
        chance = random.Random(6)
        made_on = [0] * 6
        for n in range(120):
            program = random_program(chance, chance.randint(1, 5), chance.choice([4, 8, 16, 24]))
            ahead = False
            for places in range(1, 6):
                pair = self.makes(program, places)
                self.assertTrue(pair is not None or not ahead)
                ahead = pair is not None
                if pair is not None:
                    made_on[places] += 1
                    for k, part in enumerate(program):
                        self.runs_alike(program, pair, k, [chance.choice([0, 1, 2, 5]) for name in part[1]], 40)
        self.assertGreater(made_on[5], 110)
        self.assertGreater(min(made_on[2:]), 20)

    def test_keeps_as_fewest_and_fewest_to_tell(self):
        """The same, by the functions of the package that tell them."""
        chance = random.Random(7)
        for n in range(40):
            program = random_program(chance, 1, 16)
            for places in range(1, 6):
                if short(program, places) is None:
                    code, papers = made(program, places)
                    self.assertGreaterEqual(keeps(code)[0], self.keeps_of_pieces(program[0], places))

    def keeps_of_pieces(self, part, places):
        rows, total = part[2], 0
        for head in heads(rows):
            numbers, to = piece(rows, head)
            works = by_words.works(rows, numbers)
            begin = order(part, head, places)
            told = fewest(begin, works, ()) if to is None else fewest_to(begin, works, order(part, to, places))
            total += sum(len(point) for point in told)
        first = by_words.standing(rows, 0)
        if first in led_to(rows):
            args = by_words.args_belt(part[1], places)
            total += len(fewest_to(args, (), order(part, first, places))[0])
        return total


class SizesTest(MakerTest):
    def test_24_rows_on_five_places_that_need_many_keeps(self):
        names = "abcd"
        rows = tuple(("op", names[n * 3 % 4], "+", names[n % 4], names[(n * n + 1) % 4]) for n in range(22))
        program = (("f", tuple(names), rows + (("test", "a", 0), ("give", "b"))),)
        pair = self.makes(program, 5)
        self.assertGreater(keeps(pair[0])[0], 5)
        self.runs_alike(program, pair, 0, (1, 2, 3, 4), 100)

    def test_a_long_text(self):
        lines = ["part f x y"] + [f"test {'xy'[n % 2]} {n * 7 % 500}" for n in range(500)] + ["give y"]
        program = read("\n".join(lines))
        code, papers = made(program, 5)
        self.assertIsNone(wrong(program, code, papers))
        self.assertTrue(fits(code))
        self.assertEqual(run(program, 0, (0, 0)), run_belt(code, 0, (0, 0)))

    def test_somewhat_more_places(self):
        for program in PROGRAMS:
            for places in (6, 7):
                self.makes(program, places)


class KeepsTest(unittest.TestCase):
    def test_part_by_part(self):
        code = (2, ((0, (("keep", 1), ("keep", 0), ("num", 1), ("keep", 1), ("give", 0))), (1, (("give", 0),)),
                    (2, (("jump", 1), ("keep", 0), ("give", 1)))))
        before = copy.deepcopy(code)
        self.assertEqual(keeps(code), [3, 0, 1])
        self.assertIs(type(keeps(code)), list)
        keeps(code).append(1)
        self.assertEqual(keeps(code), [3, 0, 1])
        self.assertEqual(code, before)

    def test_no_keeps_and_no_parts(self):
        self.assertEqual(keeps((1, ((0, (("num", 1), ("give", 0))),))), [0])
        self.assertEqual(keeps((1, ())), [])

    def test_many(self):
        for many in range(6):
            code = (3, ((1, (("keep", 2),) * 7 * many + (("give", 0),)),) * many)
            self.assertEqual(keeps(code), [7 * many] * many)


if __name__ == "__main__":
    unittest.main()

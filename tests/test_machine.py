import copy
import itertools
import unittest

from beltgarth.codes import fits
from beltgarth.machine import Machine, run_belt

TOP = 2 ** 64 - 1

# Says x, x - 1, .. 1 and gives the sum of them: (sum, x) lie in front at row 1, one behind them.
COUNT = (4, ((1, (
    ("num", 1),            # one x
    ("num", 0),            # sum one x
    ("keep", 2),           # x sum one
    ("test", 0, 5),        # row 3, the loop
    ("give", 1),
    ("say", 0),            # row 5
    ("op", "+", 1, 0),     # sum x . one
    ("op", "-", 1, 3),     # x sum . .
    ("num", 1),            # one x sum .
    ("keep", 2),           # sum one x .
    ("keep", 2),           # x sum one .
    ("jump", 3),
)),))

# x! by calls of itself; part 1 says what it gives.
FACT = (3, (
    (1, (
        ("test", 0, 3),
        ("num", 1),
        ("give", 0),
        ("num", 1),          # row 3: one x
        ("op", "-", 1, 0),   # y one x
        ("keep", 2),         # x y one
        ("call", 0, (1,)),   # y! x y
        ("call", 1, (0, 1)),
        ("give", 0),
    )),
    (2, (("op", "*", 1, 0), ("say", 0), ("give", 0))),
))

# Jumps and keeps at the begin, behind one another, by both ways of a test and behind a call.
DUE = (3, (
    (2, (
        ("jump", 3), ("give", 1), ("keep", 2), ("keep", 1), ("jump", 6), ("jump", 1), ("keep", 0), ("test", 2, 9),
        ("jump", 11), ("keep", 1), ("keep", 2), ("call", 1, (2, 0)), ("keep", 1), ("jump", 14), ("keep", 0), ("say", 1),
        ("jump", 5),
    )),
    (2, (("keep", 1), ("jump", 3), ("give", 2), ("keep", 1), ("op", "<", 0, 1), ("jump", 2))),
))

LOOP = (2, ((1, (("keep", 0), ("say", 0), ("jump", 0))),))
STILL = (1, ((1, (("test", 0, 0), ("keep", 0), ("jump", 0))),))
DEEP = (2, ((1, (("keep", 0), ("call", 0, (1,)), ("give", 0))),))
PING = (1, ((0, (("call", 1, ()), ("give", 0))), (0, (("jump", 1), ("call", 0, ()), ("keep", 0), ("give", 0)))))

RUNS = [(COUNT, 0, (0,)), (COUNT, 0, (1,)), (COUNT, 0, (7,)), (FACT, 0, (0,)), (FACT, 0, (5,)), (FACT, 0, (30,)),
        (FACT, 1, (TOP, TOP)), (DUE, 0, (0, 5)), (DUE, 0, (1, 5)), (DUE, 0, (5, 0)), (DUE, 1, (4, 3)), (DUE, 1, (3, 4))]


def belt_with(belt, thing):
    return (thing,) + belt[:-1]


def settle(rows, n, belt):
    """Past the keeps and jumps that are due."""
    if rows[n][0] == "jump":
        return settle(rows, rows[n][1], belt)
    if rows[n][0] == "keep":
        return settle(rows, n + 1, belt_with(belt, belt[rows[n][1]]))
    return n, belt


def by_words(code, part, args, outer, said):
    """Point 16 with the outer frames handed down: a run that shows its frames ahead of each step; it gives the answer."""
    places, parts = code
    rows = parts[part][1]
    belt = (0,) * places
    for arg in args:
        belt = belt_with(belt, arg)
    n, belt = settle(rows, 0, belt)
    while True:
        row = rows[n]
        mine = outer + [(part, n, belt)]
        yield mine
        to = n + 1
        if row[0] == "num":
            belt = belt_with(belt, row[1])
        elif row[0] == "op":
            a, b = belt[row[2]], belt[row[3]]
            come = {"+": a + b, "-": a - b, "*": a * b, "<": int(a < b), "=": int(a == b)}[row[1]] & TOP
            belt = belt_with(belt, come)
        elif row[0] == "call":
            come = yield from by_words(code, row[1], [belt[i] for i in row[2]], mine, said)
            belt = belt_with(belt, come)
        elif row[0] == "say":
            said.append(belt[row[1]])
        elif row[0] == "test" and belt[row[1]] != 0:
            to = row[2]
        elif row[0] == "give":
            return belt[row[1]]
        n, belt = settle(rows, to, belt)


def trace_by_words(code, part, args, most):
    """Frames and said ahead of each of the first steps and, where it ends, behind the last one; and the answer."""
    said, trace = [], []
    run = by_words(code, part, args, [], said)
    while len(trace) <= most:
        try:
            trace.append((next(run), list(said)))
        except StopIteration as end:
            return trace + [([], list(said))], end.value
    return trace, None


def one_part(places, many, rows):
    return (places, ((many, tuple(rows)),))


class MachineTest(unittest.TestCase):
    def shows(self, machine, frames, said=(), answer=None):
        self.assertEqual(machine.frames(), frames)
        self.assertEqual(machine.said(), list(said))
        self.assertEqual(machine.answer(), answer)
        self.assertIs(type(machine.frames()), list)
        self.assertIs(type(machine.said()), list)
        for frame in machine.frames():
            self.assertIs(type(frame), tuple)
            self.assertIs(type(frame[2]), tuple)
        for number in machine.said() + [row for part, row, belt in machine.frames()]:
            self.assertIs(type(number), int)

    def goes(self, machine, shown):
        """Each of shown is what is to be seen behind one step more, the first ahead of all."""
        for n, each in enumerate(shown):
            with self.subTest(step=n):
                self.shows(machine, *each)
            self.assertIsNone(machine.step())

    def test_the_code_here_fits(self):
        for code in (COUNT, FACT, DUE, LOOP, STILL, DEEP, PING):
            self.assertTrue(fits(code))

    def test_one_row(self):
        self.goes(Machine(one_part(1, 1, [("give", 0)]), 0, (5,)), [
            ([(0, 0, (5,))],),
            ([], (), 5),
            ([], (), 5),
            ([], (), 5),
        ])

    def test_each_word_and_the_places_ahead_of_what_comes_in(self):
        rows = [("num", 7), ("op", "-", 0, 2), ("say", 3), ("keep", 3), ("say", 0), ("op", "=", 0, 0), ("test", 0, 8),
                ("give", 3), ("give", 1)]
        self.goes(Machine(one_part(4, 2, rows), 0, (1, 2)), [
            ([(0, 0, (2, 1, 0, 0))],),
            ([(0, 1, (7, 2, 1, 0))],),
            ([(0, 2, (6, 7, 2, 1))],),
            ([(0, 4, (1, 6, 7, 2))], (1,)),
            ([(0, 5, (1, 6, 7, 2))], (1, 1)),
            ([(0, 6, (1, 1, 6, 7))], (1, 1)),
            ([(0, 8, (1, 1, 6, 7))], (1, 1)),
            ([], (1, 1), 1),
            ([], (1, 1), 1),
        ])

    def test_what_was_in_the_last_place_falls_off(self):
        rows = [("num", 4), ("num", 5), ("op", "+", 0, 1), ("give", 1)]
        self.goes(Machine(one_part(2, 1, rows), 0, (3,)), [
            ([(0, 0, (3, 0))],), ([(0, 1, (4, 3))],), ([(0, 2, (5, 4))],), ([(0, 3, (9, 5))],), ([], (), 5),
        ])

    def test_a_loop(self):
        self.goes(Machine(COUNT, 0, (2,)), [
            ([(0, 0, (2, 0, 0, 0))],),
            ([(0, 1, (1, 2, 0, 0))],),
            ([(0, 3, (2, 0, 1, 2))],),
            ([(0, 5, (2, 0, 1, 2))],),
            ([(0, 6, (2, 0, 1, 2))], (2,)),
            ([(0, 7, (2, 2, 0, 1))], (2,)),
            ([(0, 8, (1, 2, 2, 0))], (2,)),
            ([(0, 3, (1, 2, 1, 1))], (2,)),
            ([(0, 5, (1, 2, 1, 1))], (2,)),
            ([(0, 6, (1, 2, 1, 1))], (2, 1)),
            ([(0, 7, (3, 1, 2, 1))], (2, 1)),
            ([(0, 8, (0, 3, 1, 2))], (2, 1)),
            ([(0, 3, (0, 3, 1, 0))], (2, 1)),
            ([(0, 4, (0, 3, 1, 0))], (2, 1)),
            ([], (2, 1), 3),
            ([], (2, 1), 3),
        ])

    def test_calls_of_itself_and_of_another_part(self):
        out = (0, 6, (1, 0, 1))
        self.goes(Machine(FACT, 0, (1,)), [
            ([(0, 0, (1, 0, 0))],),
            ([(0, 3, (1, 0, 0))],),
            ([(0, 4, (1, 1, 0))],),
            ([out],),
            ([out, (0, 0, (0, 0, 0))],),
            ([out, (0, 1, (0, 0, 0))],),
            ([out, (0, 2, (1, 0, 0))],),
            ([(0, 7, (1, 1, 0))],),
            ([(0, 7, (1, 1, 0)), (1, 0, (1, 1, 0))],),
            ([(0, 7, (1, 1, 0)), (1, 1, (1, 1, 1))],),
            ([(0, 7, (1, 1, 0)), (1, 2, (1, 1, 1))], (1,)),
            ([(0, 8, (1, 1, 1))], (1,)),
            ([], (1,), 1),
        ])

    def test_keeps_and_jumps_that_are_due_at_the_begin(self):
        rows = [("keep", 1), ("keep", 2), ("jump", 4), ("give", 0), ("keep", 0), ("say", 2), ("give", 3)]
        self.goes(Machine(one_part(4, 2, rows), 0, (8, 9)), [
            ([(0, 5, (8, 8, 8, 9))],),
            ([(0, 6, (8, 8, 8, 9))], (8,)),
            ([], (8,), 9),
        ])

    def test_keeps_and_jumps_behind_one_another_and_tests_that_lead_on_and_not(self):
        # args 1, 5: belt 5 1 0; jump, keep 1, jump, keep 0: 1 1 5.
        self.goes(Machine(DUE, 0, (1, 5)), [
            ([(0, 7, (1, 1, 5))],),
            # keep 1, keep 2: 1 1 1
            ([(0, 11, (1, 1, 1))],),
            # args 1, 1: belt 1 1 0; keep 1, keep 1: 1 1 1
            ([(0, 11, (1, 1, 1)), (1, 4, (1, 1, 1))],),
            ([(0, 11, (1, 1, 1)), (1, 2, (0, 1, 1))],),
            ([(0, 15, (1, 1, 1))],),
            ([(0, 1, (1, 1, 1))], (1,)),
            ([], (1,), 1),
        ])
        # args 5, 0: belt 0 5 0; 5 5 0: the test does not lead on, by a jump to row 11.
        self.goes(Machine(DUE, 0, (5, 0)), [
            ([(0, 7, (5, 5, 0))],),
            ([(0, 11, (5, 5, 0))],),
            # args 0, 5: belt 5 0 0; keep 1: 0 5 0; keep 1: 5 0 5
            ([(0, 11, (5, 5, 0)), (1, 4, (5, 0, 5))],),
            # 5 < 0 is 0: 0 5 0
            ([(0, 11, (5, 5, 0)), (1, 2, (0, 5, 0))],),
            # gives 0: 0 5 5; keep 1: 5 0 5; keep 0: 5 5 0
            ([(0, 15, (5, 5, 0))],),
            ([(0, 1, (5, 5, 0))], (5,)),
            ([], (5,), 5),
        ])

    def test_a_waiting_frame_has_its_belt_as_it_was_ahead_of_the_call(self):
        rows = [("num", 3), ("call", 1, (1, 0)), ("say", 0), ("give", 2)]
        code = (3, ((1, tuple(rows)), (2, (("num", 9), ("num", 8), ("give", 1)))))
        waits = (0, 1, (3, 6, 0))
        self.goes(Machine(code, 0, (6,)), [
            ([(0, 0, (6, 0, 0))],),
            ([waits],),
            ([waits, (1, 0, (3, 6, 0))],),
            ([waits, (1, 1, (9, 3, 6))],),
            ([waits, (1, 2, (8, 9, 3))],),
            ([(0, 2, (9, 3, 6))],),
            ([(0, 3, (9, 3, 6))], (9,)),
            ([], (9,), 6),
        ])

    def test_args_of_a_call_come_in_by_their_order_one_place_several_times(self):
        code = (4, ((4, (("call", 1, (3, 0, 3, 2)), ("give", 0))), (4, (("give", 3),))))
        machine = Machine(code, 0, (1, 2, 3, 4))
        machine.step()
        self.shows(machine, [(0, 0, (4, 3, 2, 1)), (1, 0, (2, 1, 4, 1))])
        machine.step()
        self.shows(machine, [(0, 1, (1, 4, 3, 2))])

    def test_more_args_than_places_fewer_and_none(self):
        for places in range(1, 17):
            for many in range(5):
                args = tuple(range(11, 11 + many))
                told = (tuple(reversed(args)) + (0,) * places)[:places]
                code = one_part(places, many, [("give", places - 1)])
                self.goes(Machine(code, 0, args), [([(0, 0, told)],), ([], (), told[-1])])
                code = (places, ((0, (("num", 7),) * many + (("call", 1, (0,) * many), ("give", 0))), code[1][0]))
                machine = Machine(code, 0, ())
                for n in range(many + 1):
                    machine.step()
                self.assertEqual(machine.frames()[1], (1, 0, ((7,) * many + (0,) * places)[:places]))

    def test_each_part_may_be_run(self):
        self.goes(Machine(FACT, 1, (3, 4)), [
            ([(1, 0, (4, 3, 0))],),
            ([(1, 1, (12, 4, 3))],),
            ([(1, 2, (12, 4, 3))], (12,)),
            ([], (12,), 12),
        ])

    def test_signs_and_worths(self):
        for s, one, other, told in [("+", TOP, 2, 1), ("-", 1, 2, TOP), ("-", 9, 2, 7), ("*", 2 ** 63, 2, 0), ("*", 3, 4, 12),
                                    ("<", 1, 2, 1), ("<", 2, 1, 0), ("<", 2, 2, 0), ("=", 2, 2, 1), ("=", 1, 2, 0)]:
            machine = Machine(one_part(3, 2, [("op", s, 1, 0), ("give", 0)]), 0, (one, other))
            machine.step()
            self.shows(machine, [(0, 1, (told, other, one))])
        machine = Machine(one_part(1, 0, [("num", TOP), ("give", 0)]), 0, ())
        machine.step()
        self.shows(machine, [(0, 1, (TOP,))])

    def test_any_worth_but_0_leads_on(self):
        code = one_part(1, 1, [("test", 0, 2), ("give", 0), ("give", 0)])
        for x, row in ((0, 1), (1, 2), (2, 2), (2 ** 63, 2), (TOP, 2)):
            machine = Machine(code, 0, (x,))
            machine.step()
            self.shows(machine, [(0, row, (x,))])

    def test_an_answer_of_0_and_a_said_0(self):
        self.goes(Machine(one_part(1, 0, [("say", 0), ("give", 0)]), 0, ()), [
            ([(0, 0, (0,))],), ([(0, 1, (0,))], (0,)), ([], (0,), 0),
        ])

    def test_args_in_a_list_and_in_a_tuple(self):
        for code, part, args in RUNS:
            one, other = Machine(code, part, list(args)), Machine(code, part, tuple(args))
            for n in range(20):
                self.assertEqual((one.frames(), one.said(), one.answer()), (other.frames(), other.said(), other.answer()))
                one.step()
                other.step()
            self.assertEqual(run_belt(code, part, list(args)), run_belt(code, part, tuple(args)))

    def test_a_step_behind_the_end_does_nothing(self):
        machine = Machine(COUNT, 0, (2,))
        for n in range(14):
            self.assertNotEqual(machine.frames(), [])
            machine.step()
        for n in range(5):
            self.shows(machine, [], (2, 1), 3)
            self.assertIsNone(machine.step())

    def test_against_the_words(self):
        for code, part, args in RUNS + [(LOOP, 0, (3,)), (STILL, 0, (1,)), (STILL, 0, (0,)), (DEEP, 0, (1,)), (PING, 0, ())]:
            trace, answer = trace_by_words(code, part, args, 60)
            machine = Machine(code, part, args)
            for n, (frames, said) in enumerate(trace):
                if n > 0:
                    machine.step()
                self.assertEqual((machine.frames(), machine.said()), (frames, said), (code, args, n))
                self.assertEqual(machine.answer(), answer if frames == [] else None)

    def test_small_code_of_all_forms_against_the_words(self):
        words = [("num", 0), ("op", "-", 0, 1), ("call", 1, (0, 2)), ("call", 0, (2, 1)), ("say", 1), ("keep", 0),
                 ("keep", 2), ("jump", 4), ("test", 1, 0), ("test", 0, 3)]
        other = (2, (("jump", 2), ("give", 1), ("keep", 1), ("op", "=", 0, 1), ("jump", 1)))
        looked_at = 0
        for rows in itertools.product(words, repeat=3):
            code = (3, ((2, rows + (("give", 1), ("give", 2))), other))
            if not fits(code):
                continue
            looked_at += 1
            trace, answer = trace_by_words(code, 0, (1, 2), 10)
            machine = Machine(code, 0, (1, 2))
            for n, (frames, said) in enumerate(trace):
                if n > 0:
                    machine.step()
                self.assertEqual((machine.frames(), machine.said()), (frames, said), (rows, n))
                self.assertEqual(machine.answer(), answer if frames == [] else None)
        self.assertEqual(looked_at, 1000)


class OwnTest(unittest.TestCase):
    def test_what_is_told_is_the_askers_own(self):
        changed, left = Machine(FACT, 0, (4,)), Machine(FACT, 0, (4,))
        for n in range(45):
            frames, said = changed.frames(), changed.said()
            frames.append((0, 0, ()))
            frames.reverse()
            said.append(7)
            said.reverse()
            self.assertEqual(changed.frames(), left.frames())
            self.assertEqual(changed.said(), left.said())
            changed.step()
            left.step()
        self.assertEqual((changed.answer(), left.answer()), (24, 24))
        changed.said().clear()
        changed.frames().append(1)
        self.assertEqual((changed.frames(), changed.said()), ([], [1, 2, 6, 24]))

    def test_what_was_told_stays_as_it_was(self):
        machine = Machine(COUNT, 0, (2,))
        kept = []
        for n in range(16):
            kept.append((machine.frames(), machine.said(), copy.deepcopy(machine.frames()), list(machine.said())))
            machine.step()
        for frames, said, frames_then, said_then in kept:
            self.assertEqual((frames, said), (frames_then, said_then))

    def test_args_may_be_changed_behind_the_call(self):
        args = [3]
        machine = Machine(COUNT, 0, args)
        args[0] = 9
        args.append(4)
        self.assertEqual(machine.frames(), [(0, 0, (3, 0, 0, 0))])
        args.clear()
        for n in range(40):
            machine.step()
        self.assertEqual((machine.said(), machine.answer()), ([3, 2, 1], 6))

    def test_what_is_handed_in_stays_as_it_was(self):
        for code, part, args in RUNS:
            before = copy.deepcopy(code)
            handed = list(args)
            run_belt(code, part, handed)
            machine = Machine(code, part, handed)
            for n in range(20):
                machine.step()
            self.assertEqual((code, handed), (before, list(args)))

    def test_two_runs_beside_one_another(self):
        for other_code, other_part, other_args in RUNS:
            one, other = Machine(FACT, 0, (3,)), Machine(other_code, other_part, other_args)
            trace, answer = trace_by_words(FACT, 0, (3,), 60)
            other_trace, other_answer = trace_by_words(other_code, other_part, other_args, 60)
            for n in range(60):
                self.assertEqual((one.frames(), one.said()), trace[min(n, len(trace) - 1)])
                self.assertEqual((other.frames(), other.said()), other_trace[min(n, len(other_trace) - 1)])
                one.step()
                other.step()
            self.assertEqual(one.answer(), 6)

    def test_a_run_goes_on_beside_another_that_is_told_at_once(self):
        machine = Machine(COUNT, 0, (3,))
        for n in range(8):
            machine.step()
        before = (machine.frames(), machine.said(), machine.answer())
        run_belt(COUNT, 0, (5,))
        self.assertEqual((machine.frames(), machine.said(), machine.answer()), before)


class RunBeltTest(unittest.TestCase):
    def tells(self, told, expected):
        self.assertEqual(told, expected)
        self.assertIs(type(told), tuple)
        self.assertIs(type(told[1]), list)
        self.assertIs(type(told[3]), int)

    def test_given(self):
        self.tells(run_belt(COUNT, 0, (2,)), ("given", [2, 1], 3, 14))
        self.tells(run_belt(COUNT, 0, (0,)), ("given", [], 0, 4))
        self.tells(run_belt(FACT, 0, (5,)), ("given", [1, 2, 6, 24, 120], 120, 9 * 5 + 3))
        self.tells(run_belt(FACT, 1, (6, 7)), ("given", [42], 42, 3))
        self.tells(run_belt(DUE, 0, (1, 5)), ("given", [1], 1, 6))

    def test_budgets(self):
        for code, part, args in RUNS:
            trace, answer = trace_by_words(code, part, args, 1000)
            steps = len(trace) - 1
            for most in range(steps):
                self.tells(run_belt(code, part, args, most), ("spent", trace[most][1], None, most))
            for most in (steps, steps + 1, 1000):
                self.tells(run_belt(code, part, args, most), ("given", trace[-1][1], answer, steps))

    def test_a_budget_of_0(self):
        self.tells(run_belt(LOOP, 0, (1,), 0), ("spent", [], None, 0))
        self.tells(run_belt(one_part(1, 1, [("give", 0)]), 0, (1,), 0), ("spent", [], None, 0))
        self.tells(run_belt(one_part(1, 1, [("give", 0)]), 0, (1,), 1), ("given", [], 1, 1))

    def test_without_a_budget_it_is_400(self):
        self.tells(run_belt(LOOP, 0, (1,)), ("spent", [1] * 400, None, 400))
        # COUNT takes 4 steps and 5 more for each number.
        self.tells(run_belt(COUNT, 0, (79,)), ("given", list(range(79, 0, -1)), 3160, 399))
        self.tells(run_belt(COUNT, 0, (80,)), ("spent", list(range(80, 0, -1)), None, 400))

    def test_a_budget_by_its_name(self):
        self.tells(run_belt(COUNT, 0, (80,), most=404), ("given", list(range(80, 0, -1)), 3240, 404))
        self.tells(run_belt(code=LOOP, part=0, args=[2], most=3), ("spent", [2, 2, 2], None, 3))

    def test_keeps_and_jumps_count_for_no_steps(self):
        for many in (1, 5, 150):
            keeps = [("keep", 1)] * many + [("keep", 0)] * many
            jumps = [("jump", 2 * many + n + 1) for n in range(many)]
            rows = keeps + jumps + [("say", 0)] + keeps + [("give", 0)]
            self.tells(run_belt(one_part(2, 1, rows), 0, (4,), 2), ("given", [4 if many % 2 == 0 else 0],
                                                                    4 if many % 2 == 0 else 0, 2))

    def test_endless_loops(self):
        self.tells(run_belt(LOOP, 0, (7,), 1000), ("spent", [7] * 1000, None, 1000))
        self.tells(run_belt(STILL, 0, (7,), 1000), ("spent", [], None, 1000))
        self.tells(run_belt(STILL, 0, (0,), 1000), ("spent", [], None, 1000))

    def test_endless_calls_of_itself(self):
        self.tells(run_belt(DEEP, 0, (7,), 1000), ("spent", [], None, 1000))
        self.tells(run_belt(PING, 0, (), 1000), ("spent", [], None, 1000))
        machine = Machine(DEEP, 0, (7,))
        for n in range(1000):
            machine.step()
        self.assertEqual(machine.frames(), [(0, 1, (7, 7))] * 1001)
        machine = Machine(PING, 0, ())
        for n in range(1000):
            machine.step()
        self.assertEqual(machine.frames(), [(n % 2, n % 2, (0,)) for n in range(1001)])

    def test_many_open_calls_that_are_shut_again(self):
        said = [1]
        for n in range(2, 100):
            said.append(said[-1] * n % 2 ** 64)
        self.tells(run_belt(FACT, 0, (99,), 1000), ("given", said, said[-1], 9 * 99 + 3))
        down = one_part(2, 1, [("test", 0, 2), ("give", 0), ("num", 1), ("op", "-", 1, 0), ("call", 0, (0,)), ("give", 0)])
        # Each number takes five steps, the 0 at the end two.
        self.tells(run_belt(down, 0, (5000,), 5 * 5000 + 2), ("given", [], 0, 5 * 5000 + 2))
        self.tells(run_belt(down, 0, (5000,), 5 * 5000 + 1), ("spent", [], None, 5 * 5000 + 1))

    def test_the_list_told_is_the_askers_own_and_the_same_is_told_again(self):
        for code, part, args in RUNS + [(LOOP, 0, (1,)), (DEEP, 0, (1,))]:
            for most in (0, 5, 400):
                told = run_belt(code, part, args, most)
                before = copy.deepcopy(told)
                told[1].append(5)
                self.assertEqual(run_belt(code, part, args, most), before)


if __name__ == "__main__":
    unittest.main()

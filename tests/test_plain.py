import copy
import itertools
import unittest

from beltgarth.checks import check
from beltgarth.plain import Walk, run

TOP = 2 ** 64 - 1

# Says x, x - 1, .. 1 and gives the sum of them.
COUNT = (("count", ("x",), (
    ("num", "sum", 0),
    ("num", "one", 1),
    ("test", "x", 4),
    ("give", "sum"),
    ("say", "x"),
    ("op", "sum", "+", "sum", "x"),
    ("op", "x", "-", "x", "one"),
    ("jump", 2),
)),)

# x! by calls of itself; part 1 says what it gives.
FACT = (
    ("fact", ("x",), (
        ("num", "one", 1),
        ("test", "x", 3),
        ("give", "one"),
        ("op", "y", "-", "x", "one"),
        ("call", "y", 0, ("y",)),
        ("call", "y", 1, ("y", "x")),
        ("give", "y"),
    )),
    ("times", ("a", "b"), (("op", "a", "*", "a", "b"), ("say", "a"), ("give", "a"))),
)

# Jumps at the begin of each part, behind jumps, behind a call and by both ways of a test.
JUMPS = (
    ("main", ("a", "b"), (
        ("jump", 2), ("give", "b"), ("jump", 4), ("jump", 1), ("test", "a", 3), ("jump", 6), ("jump", 7),
        ("call", "b", 1, ("b", "a")), ("jump", 10), ("say", "a"), ("say", "b"), ("jump", 12), ("jump", 1),
    )),
    ("other", ("x", "y"), (("jump", 1), ("jump", 3), ("give", "x"), ("op", "x", "<", "y", "x"), ("jump", 2))),
)

LOOP = (("loop", ("x",), (("say", "x"), ("jump", 0))),)
STILL = (("still", ("x",), (("test", "x", 0), ("jump", 0))),)
DEEP = (("deep", ("x",), (("call", "x", 0, ("x",)), ("give", "x"))),)
PING = (("ping", (), (("call", "x", 1, ()), ("give", "x"))), ("pong", (), (("call", "x", 0, ()), ("give", "x"))))

PROGRAMS = [(COUNT, 0, (0,)), (COUNT, 0, (1,)), (COUNT, 0, (7,)), (FACT, 0, (0,)), (FACT, 0, (5,)), (FACT, 0, (30,)),
            (FACT, 1, (TOP, TOP)), (JUMPS, 0, (0, 5)), (JUMPS, 0, (1, 5)), (JUMPS, 0, (0, 0)), (JUMPS, 1, (4, 3))]


def standing(rows, n):
    return standing(rows, rows[n][1]) if rows[n][0] == "jump" else n


def by_words(program, part, args, outer, said):
    """Point 10 with the outer frames handed down: a walk that shows its frames ahead of each step; it gives the answer."""
    params, rows = program[part][1:]
    names = {name: arg for name, arg in zip(params, args)}
    n = standing(rows, 0)
    while True:
        row = rows[n]
        mine = outer + [(part, n, dict(names))]
        yield mine
        to = n + 1
        if row[0] == "num":
            names[row[1]] = row[2]
        elif row[0] == "op":
            a, b = names[row[3]], names[row[4]]
            names[row[1]] = {"+": a + b, "-": a - b, "*": a * b, "<": int(a < b), "=": int(a == b)}[row[2]] & TOP
        elif row[0] == "call":
            names[row[1]] = yield from by_words(program, row[2], [names[name] for name in row[3]], mine, said)
        elif row[0] == "say":
            said.append(names[row[1]])
        elif row[0] == "test" and names[row[1]] != 0:
            to = row[2]
        elif row[0] == "give":
            return names[row[1]]
        n = standing(rows, to)


def trace_by_words(program, part, args, most):
    """Frames and said ahead of each of the first steps and, where it ends, behind the last one; and the answer."""
    said, trace = [], []
    walk = by_words(program, part, args, [], said)
    while len(trace) <= most:
        try:
            trace.append((next(walk), list(said)))
        except StopIteration as end:
            return trace + [([], list(said))], end.value
    return trace, None


class WalkTest(unittest.TestCase):
    def shows(self, walk, frames, said=(), answer=None):
        self.assertEqual(walk.frames(), frames)
        self.assertEqual(walk.said(), list(said))
        self.assertEqual(walk.answer(), answer)
        self.assertIs(type(walk.frames()), list)
        self.assertIs(type(walk.said()), list)
        for frame in walk.frames():
            self.assertIs(type(frame), tuple)
            self.assertIs(type(frame[2]), dict)
        for number in walk.said() + [row for part, row, names in walk.frames()]:
            self.assertIs(type(number), int)

    def goes(self, walk, shown):
        """Each of shown is what is to be seen behind one step more, the first ahead of all."""
        for n, each in enumerate(shown):
            with self.subTest(step=n):
                self.shows(walk, *each)
            self.assertIsNone(walk.step())

    def test_one_row(self):
        self.goes(Walk((("f", ("x",), (("give", "x"),)),), 0, (5,)), [
            ([(0, 0, {"x": 5})],),
            ([], (), 5),
            ([], (), 5),
            ([], (), 5),
        ])

    def test_num_say_and_test_that_leads_on_and_that_does_not(self):
        self.goes(Walk(COUNT, 0, (2,)), [
            ([(0, 0, {"x": 2})],),
            ([(0, 1, {"x": 2, "sum": 0})],),
            ([(0, 2, {"x": 2, "sum": 0, "one": 1})],),
            ([(0, 4, {"x": 2, "sum": 0, "one": 1})],),
            ([(0, 5, {"x": 2, "sum": 0, "one": 1})], (2,)),
            ([(0, 6, {"x": 2, "sum": 2, "one": 1})], (2,)),
            ([(0, 2, {"x": 1, "sum": 2, "one": 1})], (2,)),
            ([(0, 4, {"x": 1, "sum": 2, "one": 1})], (2,)),
            ([(0, 5, {"x": 1, "sum": 2, "one": 1})], (2, 1)),
            ([(0, 6, {"x": 1, "sum": 3, "one": 1})], (2, 1)),
            ([(0, 2, {"x": 0, "sum": 3, "one": 1})], (2, 1)),
            ([(0, 3, {"x": 0, "sum": 3, "one": 1})], (2, 1)),
            ([], (2, 1), 3),
            ([], (2, 1), 3),
        ])

    def test_calls_of_other_parts_and_of_itself(self):
        low = {"x": 0, "one": 1}
        high = {"x": 1, "one": 1, "y": 0}
        self.goes(Walk(FACT, 0, (1,)), [
            ([(0, 0, {"x": 1})],),
            ([(0, 1, {"x": 1, "one": 1})],),
            ([(0, 3, {"x": 1, "one": 1})],),
            ([(0, 4, high)],),
            ([(0, 4, high), (0, 0, {"x": 0})],),
            ([(0, 4, high), (0, 1, low)],),
            ([(0, 4, high), (0, 2, low)],),
            ([(0, 5, {"x": 1, "one": 1, "y": 1})],),
            ([(0, 5, {"x": 1, "one": 1, "y": 1}), (1, 0, {"a": 1, "b": 1})],),
            ([(0, 5, {"x": 1, "one": 1, "y": 1}), (1, 1, {"a": 1, "b": 1})],),
            ([(0, 5, {"x": 1, "one": 1, "y": 1}), (1, 2, {"a": 1, "b": 1})], (1,)),
            ([(0, 6, {"x": 1, "one": 1, "y": 1})], (1,)),
            ([], (1,), 1),
        ])

    def test_jumps_at_the_begin_behind_jumps_behind_a_call_and_by_tests(self):
        self.goes(Walk(JUMPS, 0, (0, 5)), [
            ([(0, 4, {"a": 0, "b": 5})],),
            ([(0, 7, {"a": 0, "b": 5})],),
            ([(0, 7, {"a": 0, "b": 5}), (1, 3, {"x": 5, "y": 0})],),
            ([(0, 7, {"a": 0, "b": 5}), (1, 2, {"x": 1, "y": 0})],),
            ([(0, 10, {"a": 0, "b": 1})],),
            ([(0, 1, {"a": 0, "b": 1})], (1,)),
            ([], (1,), 1),
        ])
        self.goes(Walk(JUMPS, 0, (3, 5)), [
            ([(0, 4, {"a": 3, "b": 5})],),
            ([(0, 1, {"a": 3, "b": 5})],),
            ([], (), 5),
        ])

    def test_each_sign(self):
        for sign, told in (("+", 4), ("-", TOP - 1), ("*", 3), ("<", 1), ("=", 0)):
            program = (("f", ("a", "b"), (("op", "c", sign, "a", "b"), ("give", "c"))),)
            self.goes(Walk(program, 0, (1, 3)), [
                ([(0, 0, {"a": 1, "b": 3})],),
                ([(0, 1, {"a": 1, "b": 3, "c": told})],),
                ([], (), told),
            ])

    def test_worths_at_the_edge(self):
        program = (("f", ("a", "b"), (("op", "a", "*", "a", "b"), ("op", "a", "+", "a", "b"), ("say", "a"), ("give", "b"))),)
        self.goes(Walk(program, 0, (TOP, TOP)), [
            ([(0, 0, {"a": TOP, "b": TOP})],),
            ([(0, 1, {"a": 1, "b": TOP})],),
            ([(0, 2, {"a": 0, "b": TOP})],),
            ([(0, 3, {"a": 0, "b": TOP})], (0,)),
            ([], (0,), TOP),
        ])

    def test_a_test_leads_on_for_all_but_0(self):
        program = (("f", ("x",), (("test", "x", 2), ("give", "x"), ("give", "x"))),)
        for x, row in ((0, 1), (1, 2), (2, 2), (2 ** 63, 2), (TOP, 2)):
            walk = Walk(program, 0, (x,))
            walk.step()
            self.shows(walk, [(0, row, {"x": x})])

    def test_an_answer_of_0_and_a_said_0(self):
        walk = Walk((("f", ("x",), (("say", "x"), ("give", "x"))),), 0, (0,))
        self.goes(walk, [([(0, 0, {"x": 0})],), ([(0, 1, {"x": 0})], (0,)), ([], (0,), 0)])
        self.assertEqual(run((("f", ("x",), (("give", "x"),)),), 0, (0,)), ("given", [], 0, 1))

    def test_params_that_are_set_anew_are_the_frames_own(self):
        program = (("f", ("x", "y"), (("call", "y", 1, ("x", "y")), ("give", "x"))),
                   ("g", ("y", "x"), (("num", "x", 9), ("num", "y", 8), ("give", "x"))))
        out = (0, 0, {"x": 1, "y": 2})
        self.goes(Walk(program, 0, (1, 2)), [
            ([out],),
            ([out, (1, 0, {"y": 1, "x": 2})],),
            ([out, (1, 1, {"y": 1, "x": 9})],),
            ([out, (1, 2, {"y": 8, "x": 9})],),
            ([(0, 1, {"x": 1, "y": 9})],),
            ([], (), 1),
        ])

    def test_args_in_their_order_and_one_name_as_several_args(self):
        program = (("f", ("a", "b", "c", "d"), (("call", "e", 1, ("d", "a", "d", "b")), ("give", "e"))),
                   ("g", ("a", "b", "c", "d"), (("give", "a"),)))
        walk = Walk(program, 0, (1, 2, 3, 4))
        walk.step()
        out = {"a": 1, "b": 2, "c": 3, "d": 4}
        self.shows(walk, [(0, 0, out), (1, 0, {"a": 4, "b": 1, "c": 4, "d": 2})])

    def test_each_part_may_be_walked(self):
        self.goes(Walk(FACT, 1, (3, 4)), [
            ([(1, 0, {"a": 3, "b": 4})],),
            ([(1, 1, {"a": 12, "b": 4})],),
            ([(1, 2, {"a": 12, "b": 4})], (12,)),
            ([], (12,), 12),
        ])

    def test_a_part_without_params(self):
        self.goes(Walk(PING, 1, ()), [
            ([(1, 0, {})],),
            ([(1, 0, {}), (0, 0, {})],),
            ([(1, 0, {}), (0, 0, {}), (1, 0, {})],),
        ])

    def test_args_in_a_list_and_in_a_tuple(self):
        for program, part, args in PROGRAMS:
            one, other = Walk(program, part, list(args)), Walk(program, part, tuple(args))
            for n in range(20):
                self.assertEqual((one.frames(), one.said(), one.answer()), (other.frames(), other.said(), other.answer()))
                one.step()
                other.step()
            self.assertEqual(run(program, part, list(args)), run(program, part, tuple(args)))

    def test_a_step_behind_the_end_does_nothing(self):
        walk = Walk(COUNT, 0, (2,))
        for n in range(12):
            self.assertNotEqual(walk.frames(), [])
            walk.step()
        for n in range(5):
            self.shows(walk, [], (2, 1), 3)
            self.assertIsNone(walk.step())

    def test_against_the_words(self):
        for program, part, args in PROGRAMS + [(LOOP, 0, (3,)), (STILL, 0, (1,)), (STILL, 0, (0,)), (DEEP, 0, (1,)),
                                               (PING, 0, ())]:
            check(program)
            trace, answer = trace_by_words(program, part, args, 60)
            walk = Walk(program, part, args)
            for n, (frames, said) in enumerate(trace):
                if n > 0:
                    walk.step()
                self.assertEqual((walk.frames(), walk.said()), (frames, said), (program[0][0], args, n))
                self.assertEqual(walk.answer(), answer if frames == [] else None)

    def test_small_programs_of_all_forms_against_the_words(self):
        words = [("num", "y", 0), ("op", "y", "-", "x", "y"), ("call", "y", 1, ("y", "x")), ("call", "x", 0, ("y", "x")),
                 ("say", "y"), ("jump", 4), ("test", "y", 0), ("test", "x", 3)]
        other = ("g", ("a", "b"), (("jump", 2), ("give", "b"), ("op", "b", "=", "a", "b"), ("jump", 1)))
        for rows in itertools.product(words, repeat=3):
            program = (("f", ("x", "y"), rows + (("give", "x"), ("give", "y"))), other)
            check(program)
            trace, answer = trace_by_words(program, 0, (1, 2), 12)
            walk = Walk(program, 0, (1, 2))
            for n, (frames, said) in enumerate(trace):
                if n > 0:
                    walk.step()
                self.assertEqual((walk.frames(), walk.said()), (frames, said), (rows, n))
                self.assertEqual(walk.answer(), answer if frames == [] else None)


class OwnTest(unittest.TestCase):
    def test_what_is_told_is_the_askers_own(self):
        changed, left = Walk(FACT, 0, (4,)), Walk(FACT, 0, (4,))
        for n in range(40):
            frames, said = changed.frames(), changed.said()
            for part, row, names in frames:
                for name in list(names):
                    names[name] = 99
                names["other"] = 1
            frames.append((0, 0, {}))
            said.append(7)
            said.reverse()
            self.assertEqual(changed.frames(), left.frames())
            self.assertEqual(changed.said(), left.said())
            changed.step()
            left.step()
        self.assertEqual((changed.answer(), left.answer()), (24, 24))
        said = changed.said()
        said.clear()
        changed.frames().append(1)
        self.assertEqual((changed.frames(), changed.said()), ([], [1, 2, 6, 24]))

    def test_what_was_told_stays_as_it_was(self):
        walk = Walk(COUNT, 0, (2,))
        kept = []
        for n in range(14):
            kept.append((walk.frames(), walk.said(), copy.deepcopy(walk.frames()), list(walk.said())))
            walk.step()
        for frames, said, frames_then, said_then in kept:
            self.assertEqual((frames, said), (frames_then, said_then))

    def test_args_may_be_changed_behind_the_call(self):
        args = [3]
        walk = Walk(COUNT, 0, args)
        args[0] = 9
        args.append(4)
        self.assertEqual(walk.frames(), [(0, 0, {"x": 3})])
        args.clear()
        for n in range(40):
            walk.step()
        self.assertEqual((walk.said(), walk.answer()), ([3, 2, 1], 6))

    def test_what_is_handed_in_stays_as_it_was(self):
        for program, part, args in PROGRAMS:
            before = copy.deepcopy(program)
            handed = list(args)
            run(program, part, handed)
            walk = Walk(program, part, handed)
            for n in range(20):
                walk.step()
            self.assertEqual((program, handed), (before, list(args)))

    def test_two_walks_beside_one_another(self):
        for other_program, other_part, other_args in PROGRAMS:
            one, other = Walk(FACT, 0, (3,)), Walk(other_program, other_part, other_args)
            trace, answer = trace_by_words(FACT, 0, (3,), 60)
            other_trace, other_answer = trace_by_words(other_program, other_part, other_args, 60)
            for n in range(60):
                self.assertEqual((one.frames(), one.said()), trace[min(n, len(trace) - 1)])
                self.assertEqual((other.frames(), other.said()), other_trace[min(n, len(other_trace) - 1)])
                one.step()
                other.step()
            self.assertEqual(one.answer(), 6)

    def test_a_walk_goes_on_beside_a_run(self):
        walk = Walk(COUNT, 0, (3,))
        for n in range(8):
            walk.step()
        before = (walk.frames(), walk.said(), walk.answer())
        run(COUNT, 0, (5,))
        self.assertEqual((walk.frames(), walk.said(), walk.answer()), before)


class RunTest(unittest.TestCase):
    def tells(self, told, expected):
        self.assertEqual(told, expected)
        self.assertIs(type(told), tuple)
        self.assertIs(type(told[1]), list)
        self.assertIs(type(told[3]), int)

    def test_given(self):
        self.tells(run(COUNT, 0, (2,)), ("given", [2, 1], 3, 12))
        self.tells(run(COUNT, 0, (0,)), ("given", [], 0, 4))
        self.tells(run(FACT, 0, (5,)), ("given", [1, 2, 6, 24, 120], 120, 9 * 5 + 3))
        self.tells(run(FACT, 1, (6, 7)), ("given", [42], 42, 3))
        self.tells(run(JUMPS, 0, (0, 5)), ("given", [1], 1, 6))

    def test_budgets(self):
        for program, part, args in PROGRAMS:
            trace, answer = trace_by_words(program, part, args, 1000)
            steps = len(trace) - 1
            for most in range(steps):
                self.tells(run(program, part, args, most), ("spent", trace[most][1], None, most))
            for most in (steps, steps + 1, 1000):
                self.tells(run(program, part, args, most), ("given", trace[-1][1], answer, steps))

    def test_a_budget_of_0(self):
        self.tells(run(LOOP, 0, (1,), 0), ("spent", [], None, 0))
        self.tells(run((("f", ("x",), (("give", "x"),)),), 0, (1,), 0), ("spent", [], None, 0))
        self.tells(run((("f", ("x",), (("give", "x"),)),), 0, (1,), 1), ("given", [], 1, 1))

    def test_without_a_budget_it_is_400(self):
        self.tells(run(LOOP, 0, (1,)), ("spent", [1] * 400, None, 400))
        # COUNT takes 4 steps and 4 more for each number.
        self.tells(run(COUNT, 0, (99,)), ("given", list(range(99, 0, -1)), 4950, 400))
        self.tells(run(COUNT, 0, (100,)), ("spent", list(range(100, 0, -1)), None, 400))

    def test_a_budget_by_its_name(self):
        self.tells(run(COUNT, 0, (100,), most=404), ("given", list(range(100, 0, -1)), 5050, 404))
        self.tells(run(program=LOOP, part=0, args=[2], most=3), ("spent", [2, 2, 2], None, 3))

    def test_endless_loops(self):
        self.tells(run(LOOP, 0, (7,), 1000), ("spent", [7] * 1000, None, 1000))
        self.tells(run(STILL, 0, (7,), 1000), ("spent", [], None, 1000))
        self.tells(run(STILL, 0, (0,), 1000), ("spent", [], None, 1000))

    def test_endless_calls_of_itself(self):
        self.tells(run(DEEP, 0, (7,), 1000), ("spent", [], None, 1000))
        self.tells(run(PING, 0, (), 1000), ("spent", [], None, 1000))
        walk = Walk(DEEP, 0, (7,))
        for n in range(1000):
            walk.step()
        self.assertEqual(walk.frames(), [(0, 0, {"x": 7})] * 1001)
        walk = Walk(PING, 0, ())
        for n in range(1000):
            walk.step()
        self.assertEqual(walk.frames(), [(n % 2, 0, {}) for n in range(1001)])

    def test_many_open_calls_that_are_shut_again(self):
        told = run(FACT, 0, (99,), 1000)
        said = [1]
        for n in range(2, 100):
            said.append(said[-1] * n % 2 ** 64)
        # Each number takes nine steps, two parts' gives among them, the 0 at the end three.
        self.tells(told, ("given", said, said[-1], 9 * 99 + 3))
        down = (("down", ("x",), (("test", "x", 2), ("give", "x"), ("num", "y", 1), ("op", "x", "-", "x", "y"),
                                  ("call", "x", 0, ("x",)), ("give", "x"))),)
        # Each number takes five steps, the 0 at the end two.
        self.tells(run(down, 0, (5000,), 5 * 5000 + 2), ("given", [], 0, 5 * 5000 + 2))
        self.tells(run(down, 0, (5000,), 5 * 5000 + 1), ("spent", [], None, 5 * 5000 + 1))

    def test_the_list_told_is_the_askers_own_and_the_same_is_told_again(self):
        for program, part, args in PROGRAMS + [(LOOP, 0, (1,)), (DEEP, 0, (1,))]:
            for most in (0, 5, 400):
                told = run(program, part, args, most)
                before = copy.deepcopy(told)
                told[1].append(5)
                self.assertEqual(run(program, part, args, most), before)


if __name__ == "__main__":
    unittest.main()

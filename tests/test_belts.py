import copy
import unittest

from beltgarth.belts import begun, pushed

THINGS = [0, 1, 2 ** 64 - 1, 10 ** 30, -1, "x", "", None, (), ("a", None), True, [1, 2], {"a": 1}]


class PushedTest(unittest.TestCase):
    def test_what_comes_in_is_ahead_of_all_and_the_last_one_falls_off(self):
        self.assertEqual(pushed((1, 2, 3), 4), (4, 1, 2))
        self.assertEqual(pushed((0, 0), 5), (5, 0))
        self.assertEqual(pushed(("a", None, "b", None), "c"), ("c", "a", None, "b"))

    def test_one_place(self):
        self.assertEqual(pushed((1,), 2), (2,))
        self.assertEqual(pushed((None,), "x"), ("x",))

    def test_belts_of_one_to_sixteen_places(self):
        for places in range(1, 17):
            belt = tuple(range(places))
            told = pushed(belt, 99)
            self.assertIs(type(told), tuple)
            self.assertEqual(len(told), places)
            self.assertEqual(told[0], 99)
            self.assertEqual(told[1:], belt[:-1])

    def test_somewhat_beyond_the_bounds(self):
        self.assertEqual(pushed(tuple(range(40)), -1), tuple(range(-1, 39)))
        self.assertEqual(pushed((), 1), ())

    def test_things_of_any_kind(self):
        for thing in THINGS:
            told = pushed(("a", "b"), thing)
            self.assertEqual(told, (thing, "a"))
            self.assertIs(told[0], thing)
            self.assertEqual(pushed((thing, thing, 1), 7), (7, thing, thing))

    def test_a_thing_that_lies_there_already_comes_in_anew(self):
        self.assertEqual(pushed(("a", "b", "c"), "b"), ("b", "a", "b"))
        self.assertEqual(pushed(("a", "b", "c"), "a"), ("a", "a", "b"))

    def test_what_is_handed_in_stays_as_it_was(self):
        belt = (1, (2, 3), None)
        before = copy.deepcopy(belt)
        first = pushed(belt, (4,))
        self.assertEqual(pushed(belt, (4,)), first)
        self.assertEqual(belt, before)


class BegunTest(unittest.TestCase):
    def test_fewer_args_than_places(self):
        self.assertEqual(begun(4, (1, 2), 0), (2, 1, 0, 0))
        self.assertEqual(begun(3, ("x",), None), ("x", None, None))

    def test_as_many(self):
        self.assertEqual(begun(3, (1, 2, 3), 0), (3, 2, 1))
        self.assertEqual(begun(1, ("x",), None), ("x",))

    def test_more(self):
        self.assertEqual(begun(2, (1, 2, 3, 4), 0), (4, 3))
        self.assertEqual(begun(1, (1, 2, 3), 0), (3,))

    def test_no_args(self):
        for places in range(1, 17):
            for empty in (0, None, "x", (), ("a",)):
                self.assertEqual(begun(places, (), empty), (empty,) * places)
                self.assertEqual(begun(places, [], empty), (empty,) * places)

    def test_all_sizes(self):
        for places in range(1, 17):
            for many in range(20):
                args = list(range(100, 100 + many))
                told = begun(places, args, -1)
                self.assertIs(type(told), tuple)
                self.assertEqual(told, tuple((args[::-1] + [-1] * places)[:places]))
                self.assertEqual(begun(places, tuple(args), -1), told)
                self.assertEqual(args, list(range(100, 100 + many)))

    def test_things_of_any_kind(self):
        for thing in THINGS:
            self.assertEqual(begun(3, ("a", thing), thing), (thing, "a", thing))
            self.assertEqual(begun(3, [thing, thing, 5], 0), (5, thing, thing))

    def test_args_may_be_changed_behind_the_call(self):
        args = [1, 2]
        told = begun(3, args, 0)
        args[0] = 9
        args.append(8)
        self.assertEqual(told, (2, 1, 0))
        self.assertEqual(begun(3, args, 0), (8, 2, 9))
        self.assertEqual(args, [9, 2, 8])


if __name__ == "__main__":
    unittest.main()

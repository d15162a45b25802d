import copy
import itertools
import random
import unittest

import by_words
from beltgarth.fewest import fewest, fewest_to, numbers, numbers_to
from beltgarth.points import crowded

NAMES = "abcde"


def order_names(order):
    return tuple(name for name in order if name is not None)


def random_case(chance, places, many):
    """A begin, works and last; at most as many names as places."""
    names = NAMES[:chance.randint(1, places)]
    works = []
    for n in range(many):
        reads = tuple(chance.choice(names) for m in range(chance.randint(0, min(3, len(names)))))
        works.append((reads, chance.choice([None, chance.choice(names), chance.choice(NAMES)])))
    last = tuple(name for name in names if chance.random() < 0.5)
    return tuple(works), last


def random_begin(chance, places, wanted):
    """A belt with all wanted names, others, Nones and names that lie twice, or None where there is no room."""
    if len(wanted) > places:
        return None
    belt = sorted(wanted) + [chance.choice([None, None, "z", chance.choice(NAMES)]) for n in range(places - len(wanted))]
    chance.shuffle(belt)
    return tuple(belt)


def random_order(chance, places):
    names = chance.sample(NAMES, chance.randint(0, places - 1))
    return tuple(names) + (None,) * (places - len(names))


class FewestTest(unittest.TestCase):
    def unchanged(self, function, *things):
        before = copy.deepcopy(things)
        told = function(*things)
        self.assertEqual(function(*things), told)
        self.assertEqual(things, before)
        return told

    def numbers_hold(self, told, begin, works, last, order=None):
        """Points 24 and 25 (and 27), word by word."""
        pairs, wants = by_words.pairs(begin, works, last)
        self.assertIs(type(told), dict)
        self.assertEqual(set(told), pairs)
        for pair, number in told.items():
            self.assertIs(type(pair), tuple)
            self.assertIs(type(number), int)
            k, belt = pair
            by_keeps = [told[after] + 1 for place, after in by_words.keeps_from(pair, wants)]
            after = by_words.work_from(pair, works, wants)
            by_work = [told[after]] if after is not None else []
            self.assertGreaterEqual(number, 0)
            if k == len(works) and (order is None or by_words.lies(belt, order)):
                self.assertEqual(number, 0)
            else:
                self.assertEqual(number, min(by_keeps + by_work))
                self.assertTrue(number > 0 or k < len(works))

    def keeps_hold(self, told, begin, works, last, order=None):
        """The keeps, done one by one on the belt as it lies, do the works; gives how many they are."""
        self.assertIs(type(told), tuple)
        self.assertEqual(len(told), len(works) + 1)
        wants = [by_words.wanted_at(works, last, k) for k in range(len(works) + 1)]
        belt, many = begin, 0
        for k, places in enumerate(told):
            self.assertIs(type(places), tuple)
            for place in places:
                self.assertIs(type(place), int)
                self.assertIsNotNone(by_words.seen(belt, wants[k])[place])
                belt = (belt[place],) + belt[:-1]
                many += 1
            self.assertLessEqual(wants[k], set(belt))
            if k < len(works):
                belt = by_words.behind_work(belt, works[k][1])
        self.assertTrue(order is None or by_words.lies(by_words.seen(belt, wants[-1]), order))
        return many

    def holds(self, begin, works, last):
        table = self.unchanged(numbers, begin, works, last)
        self.numbers_hold(table, begin, works, last)
        many = self.keeps_hold(self.unchanged(fewest, begin, works, last), begin, works, last)
        start = (0, by_words.seen(begin, by_words.wanted_at(works, last, 0)))
        self.assertEqual(many, table[start])
        self.assertEqual(many, by_words.fewest_number(begin, works, last))
        return many

    def holds_to(self, begin, works, order):
        last = order_names(order)
        table = self.unchanged(numbers_to, begin, works, order)
        self.numbers_hold(table, begin, works, last, order)
        many = self.keeps_hold(self.unchanged(fewest_to, begin, works, order), begin, works, last, order)
        start = (0, by_words.seen(begin, by_words.wanted_at(works, last, 0)))
        self.assertEqual(many, table[start])
        self.assertEqual(many, by_words.fewest_number(begin, works, last, order))
        return many


class NumbersTest(FewestTest):
    def test_no_works(self):
        self.assertEqual(numbers((None,), (), ()), {(0, (None,)): 0})
        self.assertEqual(numbers(("a",), (), ()), {(0, (None,)): 0})
        self.assertEqual(numbers(("a",), (), ("a",)), {(0, ("a",)): 0})
        self.assertEqual(fewest(("a",), (), ("a",)), ((),))

    def test_keeps_at_the_last_point_bring_belts_too(self):
        self.assertEqual(numbers(("a", "b"), (), ("a",)), {(0, ("a", None)): 0})
        self.assertEqual(numbers(("b", "a"), (), ("a",)), {(0, (None, "a")): 0, (0, ("a", None)): 0})
        self.assertEqual(numbers(("a", "b"), (), ("b", "a")), {(0, ("a", "b")): 0, (0, ("b", "a")): 0})
        self.assertEqual(numbers(("a", None, "b"), (), ("b", "a")), {
            (0, ("a", None, "b")): 0, (0, ("b", "a", None)): 0, (0, ("b", None, "a")): 0, (0, ("a", "b", None)): 0})

    def test_a_name_that_would_fall_off(self):
        works = (((), "c"),)
        told = numbers(("b", "a"), works, ("a", "c"))
        # Ahead of the work a must not lie in the last place.
        self.assertEqual(told, {(0, (None, "a")): 1, (0, ("a", None)): 0, (1, ("c", "a")): 0, (1, ("a", "c")): 0})
        self.assertEqual(fewest(("b", "a"), works, ("a", "c")), ((1,), ()))
        self.assertEqual(fewest(("a", "b"), works, ("a", "c")), ((), ()))

    def test_a_name_is_kept_that_is_read_later(self):
        works = (((), "b"), ((), "c"), (("a", "b", "c"), None))
        self.assertEqual(self.holds(("a", None, None), works, ()), 0)
        self.assertEqual(self.holds((None, "a", None), works, ()), 1)
        self.assertEqual(self.holds((None, None, "a"), works, ()), 1)
        works = (((), "x"),) * 4 + ((("a",), None),)
        self.assertEqual(self.holds(("a", None, None), works, ()), 1)
        self.assertEqual(self.holds(("a", None), works, ()), 3)

    def test_the_belt_turns(self):
        """On full belts each work needs a turn, so that what is not wanted behind it lies last."""
        works = ((("a",), "a"), (("b",), "b"), (("c",), "c"), (("a",), "a"))
        self.assertEqual(self.holds(("a", "b", "c"), works, ("a", "b", "c")), 5)

    def test_a_work_that_makes_none_leaves_the_belt(self):
        works = ((("a",), None), (("b",), None)) * 3
        self.assertEqual(self.holds(("b", "a"), works, ("a", "b")), 0)
        self.assertEqual(sorted({k for k, belt in numbers(("b", "a"), works, ("a", "b"))}), list(range(7)))

    def test_an_outcome_that_is_not_wanted_comes_in_all_the_same(self):
        self.assertEqual(numbers(("a", None), (((), "z"),), ("a",)), {
            (0, ("a", None)): 0, (1, (None, "a")): 0, (1, ("a", None)): 0})

    def test_one_place(self):
        works = ((("a",), "b"), (("b",), "a"), (("a",), None))
        self.assertEqual(numbers(("a",), works, ("a",)), {
            (0, ("a",)): 0, (1, ("b",)): 0, (2, ("a",)): 0, (3, ("a",)): 0})
        self.assertEqual(fewest(("a",), works, ("a",)), ((), (), (), ()))

    def test_begins_with_none_and_with_a_name_twice(self):
        works = (((), "b"), ((), "c"))
        self.assertEqual(self.holds(("a", "a", None), works, ("a", "b", "c")), 0)
        self.assertEqual(self.holds((None, "a", "a"), works, ("a", "b", "c")), 1)
        self.assertEqual(self.holds(("z", "a", "z"), works, ("a", "b", "c")), 1)
        # As seen, the a nearest to the front alone is there.
        self.assertIn((0, (None, "a", None)), numbers((None, "a", "a"), works, ("a", "b", "c")))
        self.assertNotIn((0, (None, "a", "a")), numbers((None, "a", "a"), works, ("a", "b", "c")))

    def test_last_with_names_that_no_work_makes(self):
        works = (((), "a"), (("a",), "b"), (("b",), "c"))
        self.assertEqual(self.holds(("d", None, None), works, ("d",)), 1)
        self.assertEqual(self.holds(("d", "e", None), works, ("e", "d")), 4)
        self.assertEqual(self.holds(("d", None, None), works, ()), 0)

    def test_last_with_a_name_twice(self):
        self.assertEqual(numbers(("b", "a"), (((), "c"),), ("a", "a")), numbers(("b", "a"), (((), "c"),), ("a",)))

    def test_none_is_never_kept(self):
        told = numbers((None, "a", None, None), (), ("a",))
        self.assertEqual(set(told), {(0, (None, "a", None, None)), (0, ("a", None, None, None))})

    def test_small_ones_of_all_forms(self):
        words = [((), "a"), ((), "c"), (("a",), None), (("b",), "a"), (("a", "b"), "c"), (("c", "a"), "a")]
        looked_at = 0
        for many in range(4):
            for works in itertools.product(words, repeat=many):
                for last in ((), ("a",), ("c", "b"), ("a", "b", "c")):
                    for places in (1, 2, 3)[:5 - many]:
                        looked_at += self.looks_at_all_begins(works, last, places)
        self.assertGreater(looked_at, 250)

    def looks_at_all_begins(self, works, last, places):
        if crowded(places, works, last) is not None:
            return 0
        wants = by_words.wanted_at(works, last, 0)
        for begin in {seen for seen in itertools.permutations(sorted(wants) + [None] * (places - len(wants)))}:
            self.holds(begin, works, last)
        return 1


class FewestOfAllTest(FewestTest):
    """Against belts with whatever lies on them, and keeps of whatever place: no fewer keeps do it."""

    def test_no_fewer_do_it(self):
        chance = random.Random(1)
        found = set()
        for n in range(600):
            places = chance.randint(1, 4)
            works, last = random_case(chance, places, chance.randint(0, 5))
            begin = random_begin(chance, places, by_words.wanted_at(works, last, 0))
            if begin is None:
                continue
            told = by_words.raw_fewest(begin, works, last)
            if crowded(places, works, last) is not None:
                self.assertIsNone(told, (begin, works, last))
            else:
                self.assertEqual(self.holds(begin, works, last), told, (begin, works, last))
            found.add(told)
        self.assertLessEqual({None, 0, 1, 2, 3, 4}, found)

    def test_no_fewer_do_it_to_an_order(self):
        chance = random.Random(2)
        found = set()
        for n in range(600):
            places = chance.randint(1, 4)
            order = random_order(chance, places)
            works = random_case(chance, places, chance.randint(0, 4))[0]
            begin = random_begin(chance, places, by_words.wanted_at(works, order_names(order), 0))
            if begin is None:
                continue
            told = by_words.raw_fewest(begin, works, order_names(order), order)
            if crowded(places, works, order_names(order)) is not None:
                self.assertIsNone(told, (begin, works, order))
            else:
                self.assertEqual(self.holds_to(begin, works, order), told, (begin, works, order))
            found.add(told)
        self.assertLessEqual({None, 0, 1, 2, 3, 4}, found)

    def test_belts_of_one_to_five_places(self):
        chance = random.Random(3)
        looked_at = [0] * 6
        while min(looked_at[1:]) < 12:
            places = chance.randint(1, 5)
            works, last = random_case(chance, places, chance.randint(0, 6))
            begin = random_begin(chance, places, by_words.wanted_at(works, last, 0))
            if begin is not None and crowded(places, works, last) is None and looked_at[places] < 12:
                self.holds(begin, works, last)
                looked_at[places] += 1

    def test_orders_on_belts_of_one_to_five_places(self):
        chance = random.Random(4)
        looked_at = [0] * 6
        while min(looked_at[1:]) < 12:
            places = chance.randint(1, 5)
            order = random_order(chance, places)
            works = random_case(chance, places, chance.randint(0, 5))[0]
            begin = random_begin(chance, places, by_words.wanted_at(works, order_names(order), 0))
            if begin is not None and crowded(places, works, order_names(order)) is None and looked_at[places] < 12:
                self.holds_to(begin, works, order)
                looked_at[places] += 1


class ToAnOrderTest(FewestTest):
    def test_the_order_that_lies_there_already(self):
        self.assertEqual(fewest_to(("a", "b", None), (), ("a", "b", None)), ((),))
        self.assertEqual(fewest_to((None,), (), (None,)), ((),))
        self.assertEqual(fewest_to(("z",), (), (None,)), ((),))
        self.assertEqual(numbers_to(("z",), (), (None,)), {(0, (None,)): 0})
        self.assertEqual(fewest_to(("a", "b", "z", "a"), (), ("a", "b", None, None)), ((),))

    def test_no_works(self):
        self.assertEqual(fewest_to(("b", "a", None), (), ("a", "b", None)), ((1,),))
        self.assertEqual(fewest_to((None, "a"), (), ("a", None)), ((1,),))
        self.assertEqual(numbers_to((None, "a"), (), ("a", None)), {(0, (None, "a")): 1, (0, ("a", None)): 0})
        # b comes in ahead of c, and a ahead of both.
        self.assertEqual(self.holds_to(("c", "b", "a", None), (), ("a", "b", "c", None)), 2)

    def test_no_works_from_all_belts_to_all_orders(self):
        for places in (1, 2, 3, 4):
            for many in range(places):
                order = tuple(NAMES[:many]) + (None,) * (places - many)
                for begin in set(itertools.permutations(order)):
                    self.holds_to(begin, (), order)

    def test_works_and_an_order(self):
        works = ((("a",), "b"), (("b",), "c"))
        self.assertEqual(self.holds_to(("a", None, None), works, ("c", "b", None)), 0)
        self.assertEqual(self.holds_to(("a", None, None), works, ("b", "c", None)), 1)
        self.assertEqual(fewest_to(("a", None, None), works, ("b", "c", None)), ((), (), (1,)))

    def test_0_at_the_last_point_just_where_it_lies_so(self):
        told = numbers_to(("a", None, None), ((("a",), "b"),), ("b", "a", None))
        self.assertEqual({belt: number for (k, belt), number in told.items() if k == 1},
                         {("b", "a", None): 0, ("a", "b", None): 1, ("b", None, "a"): 2, ("a", None, "b"): 1})

    def test_it_is_done_but_where_it_is_crowded(self):
        chance = random.Random(5)
        for n in range(60):
            places = chance.randint(2, 5)
            names = chance.sample(NAMES, places - 1)
            order = tuple(names) + (None,)
            begin = list(names) + [None]
            chance.shuffle(begin)
            self.holds_to(tuple(begin), (), order)


class SizesTest(FewestTest):
    def test_thirty_works_on_five_places(self):
        works = tuple(((NAMES[n % 4], NAMES[n * 3 % 4]), NAMES[n * n % 4] if n % 5 else None) for n in range(30))
        begin = ("d", "a", None, "c", "b")
        table = numbers(begin, works, tuple("abcd"))
        self.assertEqual(self.keeps_hold(fewest(begin, works, tuple("abcd")), begin, works, tuple("abcd")),
                         table[(0, begin)])
        order = ("d", "c", "b", "a", None)
        many = self.keeps_hold(fewest_to(begin, works, order), begin, works, tuple("abcd"), order)
        self.assertEqual(many, numbers_to(begin, works, order)[(0, begin)])
        self.assertEqual(many, by_words.fewest_number(begin, works, tuple("abcd"), order))

    def test_somewhat_beyond_the_bounds(self):
        works = tuple((("a", "b", "c"), "abcdef"[n % 6]) for n in range(8))
        begin = tuple("fedcba")
        self.assertEqual(self.holds(begin, works, tuple("abcdef")), by_words.fewest_number(begin, works, tuple("abcdef")))

    def test_the_dict_is_the_askers_own(self):
        for function, end in ((numbers, ("a",)), (numbers_to, ("a", None))):
            told = function(("b", "a"), (((), "c"),), end)
            before = dict(told)
            told.clear()
            told[(0, ())] = 5
            self.assertEqual(function(("b", "a"), (((), "c"),), end), before)


if __name__ == "__main__":
    unittest.main()

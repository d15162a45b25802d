import copy
import itertools
import unittest

from beltgarth.points import crowded, seen, wanted_at


def is_wanted(works, last, k, name):
    """Point 22, word by word, from point k on."""
    for reads, makes in works[k:]:
        if name in reads:
            return True
        if name == makes:
            return False
    return name in last


def wanted_by_words(works, last):
    names = sorted({name for reads, makes in works for name in reads} | set(last))
    return [tuple(name for name in names if is_wanted(works, last, k, name)) for k in range(len(works) + 1)]


def crowded_by_words(places, works, last):
    points = wanted_by_words(works, last)
    for k in range(len(works) + 1):
        if len(points[k]) > places:
            return ("ahead", k, points[k])
        if k < len(works) and works[k][1] is not None:
            counted = tuple(sorted(set(points[k + 1]) - {works[k][1]}))
            if len(counted) > places - 1:
                return ("behind", k, counted)
    return None


SMALL = [((), None), ((), "a"), (("a",), None), (("b",), "a"), (("a", "b"), "c"), (("c", "a"), "a"), (("b", "b"), "b"),
         (("c", "b", "a"), None)]


class WantedAtTest(unittest.TestCase):
    def wants(self, works, last, told):
        before = copy.deepcopy((works, last))
        found = wanted_at(works, last)
        self.assertEqual(found, told, (works, last))
        self.assertIs(type(found), list)
        for names in found:
            self.assertIs(type(names), tuple)
        found.append(1)
        found[0] = ("z",)
        self.assertEqual(wanted_at(works, last), told)
        self.assertEqual((works, last), before)

    def test_no_works(self):
        self.wants((), (), [()])
        self.wants((), ("b", "a"), [("a", "b")])
        self.wants((), ("b", "a", "b"), [("a", "b")])

    def test_reads_alone(self):
        self.wants(((("b", "a"), None),), (), [("a", "b"), ()])
        self.wants(((("a",), None), (("b",), None)), (), [("a", "b"), ("b",), ()])
        self.wants(((("a", "a"), None), (("a",), None)), (), [("a",), ("a",), ()])

    def test_last_and_reads(self):
        self.wants(((("a",), None), (("b",), None)), ("c", "b"), [("a", "b", "c"), ("b", "c"), ("b", "c")])

    def test_names_made_ahead(self):
        self.wants((((), "a"), (("a",), "b"), (("b", "a"), None)), (), [(), ("a",), ("a", "b"), ()])
        self.wants((((), "a"),), ("a", "b"), [("b",), ("a", "b")])
        self.wants(((("a",), None), ((), "a"), (("a",), None)), (), [("a",), (), ("a",), ()])

    def test_a_work_that_makes_what_it_reads(self):
        self.wants(((("a", "b"), "a"), (("a",), "a")), ("a",), [("a", "b"), ("a",), ("a",)])
        self.wants(((("a",), "a"),), (), [("a",), ()])

    def test_a_work_that_makes_what_is_not_wanted(self):
        self.wants(((("a",), "x"), (("b",), "y")), ("c",), [("a", "b", "c"), ("b", "c"), ("c",)])

    def test_names_are_sorted(self):
        self.wants(((("c", "ab", "b", "aa", "a"), None),), ("bb", "z"), [("a", "aa", "ab", "b", "bb", "c", "z"), ("bb", "z")])

    def test_thirty_works_of_eight_names(self):
        names = "abcdefghijklmnopqrstuvwxyz"
        works = tuple((tuple(names[(n * 7 + m * 3) % 26] for m in range(8)), None if n % 4 == 0 else names[n * 5 % 26])
                      for n in range(30))
        self.wants(works, ("a", "b", "c"), wanted_by_words(works, ("a", "b", "c")))

    def test_small_ones_of_all_forms(self):
        for many in range(4):
            for works in itertools.product(SMALL, repeat=many):
                for last in ((), ("a",), ("c", "a"), ("d",)):
                    self.assertEqual(wanted_at(works, last), wanted_by_words(works, last), (works, last))


class CrowdedTest(unittest.TestCase):
    def tells(self, places, works, last, told):
        before = copy.deepcopy((works, last))
        found = crowded(places, works, last)
        self.assertEqual(found, told, (places, works, last))
        if told is not None:
            self.assertIs(type(found), tuple)
            self.assertIs(type(found[2]), tuple)
        self.assertEqual(crowded(places, works, last), told)
        self.assertEqual((works, last), before)

    def test_not_crowded(self):
        self.tells(1, (), (), None)
        self.tells(1, (), ("a",), None)
        self.tells(2, ((("a", "b"), None),), (), None)
        self.tells(2, ((("a", "b"), "c"),), ("c",), None)
        self.tells(1, ((("a",), "b"), (("b",), "c")), ("c",), None)

    def test_ahead(self):
        self.tells(1, ((("b", "a"), None),), (), ("ahead", 0, ("a", "b")))
        self.tells(2, ((("b", "a"), None),), ("c",), ("ahead", 0, ("a", "b", "c")))
        self.tells(1, (((), None), ((), None), (("b", "a"), None)), (), ("ahead", 0, ("a", "b")))

    def test_ahead_of_a_later_work(self):
        works = (((), "a"), ((), "b"), (("b", "a"), None))
        self.tells(2, works, (), None)
        # Point 1 has room for a alone, and b comes in behind it.
        self.tells(1, works, (), ("behind", 1, ("a",)))

    def test_ahead_of_the_last_point(self):
        self.tells(1, (), ("b", "a"), ("ahead", 0, ("a", "b")))
        self.tells(2, (((), None),), ("c", "b", "a"), ("ahead", 0, ("a", "b", "c")))

    def test_behind(self):
        self.tells(2, ((("a", "b"), "c"),), ("a", "b"), ("behind", 0, ("a", "b")))
        self.tells(2, ((("a", "b"), "c"),), ("c", "a", "b"), ("behind", 0, ("a", "b")))
        self.tells(2, ((("a", "b"), "c"),), ("c", "a"), None)
        self.tells(3, ((("a", "b"), "c"),), ("c", "a", "b"), None)

    def test_behind_a_work_whose_outcome_is_not_wanted(self):
        """It comes in all the same, so one place fewer is left for the others."""
        self.tells(1, (((), "c"),), ("a",), ("behind", 0, ("a",)))
        self.tells(1, (((), None),), ("a",), None)
        self.tells(2, (((), "c"),), ("b", "a"), ("behind", 0, ("a", "b")))

    def test_a_work_that_makes_none_needs_no_room(self):
        self.tells(2, ((("a", "b"), None), (("b", "a"), None)), ("b", "a"), None)

    def test_one_place(self):
        self.tells(1, ((("a",), "a"), (("a",), "a")), ("a",), None)
        self.tells(1, ((("a",), "b"),), ("a",), ("behind", 0, ("a",)))
        self.tells(1, ((("a",), "b"),), ("a", "b"), ("behind", 0, ("a",)))
        self.tells(1, ((("a",), "b"),), (), None)

    def test_the_first_one_is_told(self):
        both = ((("a", "b", "c"), "d"),)
        self.tells(2, both, ("a", "b", "c"), ("ahead", 0, ("a", "b", "c")))
        self.tells(3, both, ("a", "b", "c"), ("behind", 0, ("a", "b", "c")))
        later = (((), "c"), ((), "d"), (("c", "d", "b", "a"), None))
        self.tells(3, later, (), ("behind", 1, ("a", "b", "c")))
        self.tells(2, later, (), ("behind", 0, ("a", "b")))
        self.tells(1, later, (), ("ahead", 0, ("a", "b")))
        self.tells(4, later, (), None)

    def test_behind_k_is_told_before_ahead_of_k_plus_one(self):
        self.tells(2, ((("a",), "b"), (("a", "b", "c"), None)), (), ("behind", 0, ("a", "c")))
        self.tells(2, ((("a", "b"), "b"), (("b", "a", "c"), None)), (), ("ahead", 0, ("a", "b", "c")))

    def test_the_last_work(self):
        works = (((), None), ((), None), (("a",), "b"))
        self.tells(2, works, ("c", "d"), ("ahead", 0, ("a", "c", "d")))
        self.tells(3, works, ("a", "c", "d"), ("behind", 2, ("a", "c", "d")))
        self.tells(3, works, ("b", "c", "d"), None)

    def test_one_to_sixteen_places(self):
        names = tuple("abcdefghijklmnop")
        for places in range(1, 17):
            self.tells(places, (), names[:places], None)
            if places < 16:
                self.tells(places, (), names[:places + 1], ("ahead", 0, names[:places + 1]))
            self.tells(places, ((names[:places], "z"),), names[:places - 1], None)
            self.tells(places, ((names[:places], "z"),), names[:places], ("behind", 0, names[:places]))

    def test_small_ones_of_all_forms(self):
        words = set()
        for many in range(4):
            for works in itertools.product(SMALL, repeat=many):
                for last in ((), ("a",), ("c", "a"), ("d",)):
                    for places in (1, 2, 3, 4):
                        told = crowded_by_words(places, works, last)
                        self.assertEqual(crowded(places, works, last), told, (places, works, last))
                        words.add(told and told[:2])
        self.assertEqual(words, {None, ("ahead", 0), ("behind", 0), ("behind", 1), ("behind", 2)})


class SeenTest(unittest.TestCase):
    def sees(self, belt, names, told):
        before = copy.deepcopy((belt, names))
        found = seen(belt, names)
        self.assertEqual(found, told, (belt, names))
        self.assertIs(type(found), tuple)
        self.assertEqual(seen(belt, names), told)
        self.assertEqual((belt, names), before)

    def test_all_wanted(self):
        self.sees(("a", "b"), ("a", "b"), ("a", "b"))
        self.sees(("b", "a"), ("a", "b"), ("b", "a"))

    def test_names_that_are_not_wanted(self):
        self.sees(("a", "b", "c"), ("b",), (None, "b", None))
        self.sees(("a", "b"), (), (None, None))
        self.sees(("a",), ("b",), (None,))
        self.sees(("aa", "a"), ("a",), (None, "a"))

    def test_a_name_twice(self):
        self.sees(("a", "b", "a"), ("a", "b"), ("a", "b", None))
        self.sees(("b", "a", "a", "b"), ("a", "b"), ("b", "a", None, None))
        self.sees(("a", "a"), ("b",), (None, None))
        self.sees(("c", "a", "b", "a"), ("a",), (None, "a", None, None))

    def test_none(self):
        self.sees((None, "a", None), ("a",), (None, "a", None))
        self.sees((None,), ("a",), (None,))
        self.sees((None, None), (), (None, None))

    def test_names_that_do_not_lie_there(self):
        self.sees(("a", None), ("a", "b"), ("a", None))

    def test_one_place(self):
        self.sees(("a",), ("a",), ("a",))
        self.sees(("a",), (), (None,))

    def test_small_ones_of_all_forms(self):
        for belt in itertools.product((None, "a", "b", "c"), repeat=4):
            for names in ((), ("a",), ("a", "c"), ("a", "b", "c")):
                told = tuple(thing if thing in names and belt.index(thing) == n else None for n, thing in enumerate(belt))
                self.sees(belt, names, told)


if __name__ == "__main__":
    unittest.main()

import unittest

from beltgarth.errors import BeltError, NoLine, NoProgram, Short


class ErrorsTest(unittest.TestCase):
    def made(self):
        return [NoProgram(2, 7, "ring"), NoLine(4), Short(1, 3, "behind", ("a", "b"))]

    def test_each_stands_under_belt_error_and_value_error(self):
        self.assertTrue(issubclass(BeltError, ValueError))
        for error in self.made():
            self.assertIsInstance(error, BeltError)
            self.assertIsInstance(error, ValueError)

    def test_none_stands_under_another(self):
        kinds = [NoProgram, NoLine, Short]
        for one in kinds:
            self.assertTrue(issubclass(one, BeltError))
            for other in kinds:
                self.assertEqual(issubclass(one, other), one is other)

    def test_belt_error_is_none_of_them(self):
        for kind in (NoProgram, NoLine, Short):
            self.assertFalse(issubclass(BeltError, kind))

    def test_fields_of_no_program(self):
        error = NoProgram(2, 7, "ring")
        self.assertEqual((error.part, error.row, error.word), (2, 7, "ring"))

    def test_fields_of_no_line(self):
        self.assertEqual(NoLine(4).line, 4)
        self.assertEqual(NoLine(0).line, 0)

    def test_fields_of_short(self):
        error = Short(1, 3, "behind", ("a", "b"))
        self.assertEqual((error.part, error.row, error.word, error.names), (1, 3, "behind", ("a", "b")))
        self.assertEqual(Short(0, 0, "begin", ()).names, ())

    def test_fields_bear_the_names_that_are_made_with(self):
        error = NoProgram(word="name", row=0, part=3)
        self.assertEqual((error.part, error.row, error.word), (3, 0, "name"))
        self.assertEqual(NoLine(line=9).line, 9)
        short = Short(names=("z",), word="head", row=5, part=4)
        self.assertEqual((short.part, short.row, short.word, short.names), (4, 5, "head", ("z",)))

    def test_each_object_has_its_own_fields(self):
        one = NoProgram(0, 1, "row")
        other = NoProgram(2, 3, "unset")
        self.assertEqual((one.part, one.row, one.word), (0, 1, "row"))
        self.assertEqual((other.part, other.row, other.word), (2, 3, "unset"))

    def test_each_is_taken_as_a_belt_error(self):
        for error in self.made():
            with self.assertRaises(BeltError) as taken:
                raise error
            self.assertIs(taken.exception, error)


if __name__ == "__main__":
    unittest.main()

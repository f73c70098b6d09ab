import unittest

from spreadwords.errors import NoFit, NoMachine, NoName, NoRow, NoText, SpreadError


def one_of_each():
    return [NoText(3), NoMachine("rooms", 7), NoFit(), NoName("abc"), NoRow()]


class Errors(unittest.TestCase):
    def test_each_is_a_spread_error_and_a_value_error(self):
        for error in one_of_each():
            self.assertIsInstance(error, SpreadError)
            self.assertIsInstance(error, ValueError)

    def test_each_stands_right_under_spread_error(self):
        for error in one_of_each():
            self.assertEqual(type(error).__bases__, (SpreadError,))
        self.assertEqual(SpreadError.__bases__, (ValueError,))

    def test_none_is_one_of_the_other_four(self):
        errors = one_of_each()
        for one in errors:
            for other in errors:
                self.assertEqual(isinstance(one, type(other)), one is other)

    def test_spread_error_is_none_of_the_five(self):
        for error in one_of_each():
            self.assertNotIsInstance(SpreadError(), type(error))

    def test_raised_and_taken_by_name(self):
        for error in one_of_each():
            for taken in (type(error), SpreadError, ValueError):
                with self.assertRaises(taken):
                    raise error

    def test_no_text_keeps_at(self):
        for at in (0, 1, 12):
            self.assertEqual(NoText(at).at, at)

    def test_no_machine_keeps_word_and_at(self):
        for word in ("letters", "rooms", "begin", "ends", "steps"):
            for at in (0, 5):
                error = NoMachine(word, at)
                self.assertEqual((error.word, error.at), (word, at))

    def test_no_name_keeps_name(self):
        for name in ("a", "nobody"):
            self.assertEqual(NoName(name).name, name)

    def test_fields_are_each_objects_own(self):
        one = NoMachine("rooms", 7)
        NoMachine("ends", 2)
        self.assertEqual((one.word, one.at), ("rooms", 7))

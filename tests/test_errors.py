import unittest

from treesay.errors import NoFold, NoMark, NoStand, NoStep, NoText, SayError

REFUSALS = (NoStand, NoStep, NoMark, NoText, NoFold)


class ErrorsTest(unittest.TestCase):
    def test_any_refusal_stands_straight_under_value_error(self):
        self.assertEqual(SayError.__bases__, (ValueError,))

    def test_each_refusal_stands_straight_under_say_error(self):
        for refusal in REFUSALS:
            with self.subTest(refusal=refusal.__name__):
                self.assertEqual(refusal.__bases__, (SayError,))

    def test_no_refusal_stands_under_another(self):
        for one in REFUSALS:
            for other in REFUSALS:
                with self.subTest(one=one.__name__, other=other.__name__):
                    self.assertEqual(issubclass(one, other), one is other)

    def test_the_names_are_those_of_the_interface(self):
        names = [refusal.__name__ for refusal in REFUSALS]
        self.assertEqual(names, ["NoStand", "NoStep", "NoMark", "NoText", "NoFold"])
        self.assertEqual(SayError.__name__, "SayError")

    def test_each_refusal_is_taken_as_any_refusal(self):
        for refusal in REFUSALS:
            with self.subTest(refusal=refusal.__name__):
                with self.assertRaises(SayError):
                    raise refusal("why")


if __name__ == "__main__":
    unittest.main()

import unittest

from knotless import errors

REFUSALS = ("BadTown", "NoHouse", "NoGroup", "NoWire", "NoCaller", "Apart", "NoCopy", "NoLetter", "NoText")


class Errors(unittest.TestCase):
    def test_knot_error_stands_under_value_error(self):
        self.assertEqual(errors.KnotError.__bases__, (ValueError,))

    def test_each_refusal_stands_under_knot_error(self):
        for name in REFUSALS:
            with self.subTest(name):
                refusal = getattr(errors, name)
                self.assertTrue(issubclass(refusal, errors.KnotError))
                self.assertIsNot(refusal, errors.KnotError)

    def test_no_refusal_stands_under_another_one(self):
        for name in REFUSALS:
            for other in REFUSALS:
                if name != other:
                    with self.subTest(name=name, other=other):
                        self.assertFalse(issubclass(getattr(errors, name), getattr(errors, other)))

    def test_each_refusal_is_raised_with_words(self):
        for name in REFUSALS:
            with self.subTest(name):
                refusal = getattr(errors, name)
                with self.assertRaises(errors.KnotError) as caught:
                    raise refusal("some words")
                self.assertEqual(str(caught.exception), "some words")


if __name__ == "__main__":
    unittest.main()

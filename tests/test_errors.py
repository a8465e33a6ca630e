import unittest

from calmfabric.errors import BadText, FabricError, NoAnswer, NotAllowed, NotPossible


class ErrorsTest(unittest.TestCase):
    def test_fabric_error_is_a_value_error(self):
        self.assertTrue(issubclass(FabricError, ValueError))
        self.assertIs(FabricError.__base__, ValueError)

    def test_the_others_are_fabric_errors_and_not_each_other(self):
        kinds = (BadText, NotPossible, NotAllowed, NoAnswer)
        for kind in kinds:
            self.assertTrue(issubclass(kind, FabricError), kind)
            for other in kinds:
                self.assertEqual(issubclass(kind, other), kind is other)

    def test_attributes(self):
        for number in (0, 1, 402, 10 ** 30):
            self.assertEqual(BadText(number).line, number)
            self.assertEqual(NotPossible(number).number, number)
        self.assertEqual(vars(BadText(7)), {"line": 7})
        self.assertEqual(vars(NotPossible(7)), {"number": 7})

    def test_all_are_raised_and_caught(self):
        for error in (FabricError("x"), BadText(1), NotPossible(0), NotAllowed("x"), NoAnswer("x")):
            with self.assertRaises(FabricError):
                raise error
            with self.assertRaises(ValueError):
                raise error
            self.assertNotEqual(str(error), "")


if __name__ == "__main__":
    unittest.main()

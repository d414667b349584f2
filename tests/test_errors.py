import unittest

from turnsame import errors

WITH_FIELDS = {
    "NoTree": ("at",),
    "NoProgram": ("part", "at"),
    "NoPaper": ("side", "number"),
    "NoEdit": ("number",),
    "NoTurn": ("word", "part", "at"),
    "Clash": ("one", "other"),
    "NoLines": ("row",),
}
OF_A_TEXT = ("NoOpen", "NoStep", "NoRequest", "NoMore", "NoRow")


class Errors(unittest.TestCase):
    def classes(self):
        return [getattr(errors, name) for name in list(WITH_FIELDS) + list(OF_A_TEXT)]

    def test_base_is_a_value_error(self):
        self.assertTrue(issubclass(errors.TurnError, ValueError))

    def test_each_stands_under_the_base_alone(self):
        for one in self.classes():
            self.assertEqual(one.__bases__, (errors.TurnError,))

    def test_none_stands_under_another(self):
        for one in self.classes():
            for other in self.classes():
                self.assertEqual(issubclass(one, other), one is other)

    def test_fields_in_order(self):
        for name, fields in WITH_FIELDS.items():
            given = [("first", 1), ("second", 2), ("third", 3)][: len(fields)]
            error = getattr(errors, name)(*given)
            self.assertEqual([getattr(error, field) for field in fields], given)
            self.assertIsInstance(str(error), str)

    def test_fields_can_be_told_by_name_when_caught(self):
        with self.assertRaises(errors.TurnError) as caught:
            raise errors.NoTurn("shade", 2, 17)
        self.assertEqual((caught.exception.word, caught.exception.part, caught.exception.at), ("shade", 2, 17))

    def test_of_a_text(self):
        for name in OF_A_TEXT:
            self.assertEqual(str(getattr(errors, name)("whatever one")), "whatever one")
            self.assertEqual(str(getattr(errors, name)("")), "")


if __name__ == "__main__":
    unittest.main()

import unittest

from lampforge import errors

NAMES = ("NoPlan", "NoName", "Twice", "Never", "NoWidth", "NoPart", "TooMuch", "Ring", "NoPair", "NoPaper", "NoWord",
         "NoText", "NoRow")
OF_A_PART = ("NoName", "Twice", "Never", "NoWidth", "NoPart")


class ErrorsTest(unittest.TestCase):
    def test_the_base(self):
        self.assertEqual(errors.ForgeError.__bases__, (ValueError,))

    def test_each_is_straight_under_the_base(self):
        for name in NAMES:
            with self.subTest(name):
                self.assertEqual(getattr(errors, name).__bases__, (errors.ForgeError,))
                self.assertEqual(getattr(errors, name).__name__, name)

    def test_none_is_under_another(self):
        for name in NAMES:
            for other in NAMES:
                under = issubclass(getattr(errors, name), getattr(errors, other))
                self.assertEqual(under, name == other, (name, other))

    def test_those_of_a_part(self):
        for name in OF_A_PART:
            with self.subTest(name):
                error = getattr(errors, name)("top", "a")
                self.assertEqual((error.part, error.name), ("top", "a"))
                self.assertIsInstance(error, ValueError)
                self.assertIn("top", str(error))

    def test_the_ring(self):
        names = ["a", "b.c"]
        error = errors.Ring(names)
        names.append("d")
        self.assertEqual(error.names, ["a", "b.c"])
        self.assertIs(type(error.names), list)
        self.assertEqual(errors.Ring(("a",)).names, ["a"])

    def test_the_paper(self):
        error = errors.NoPaper("start", 3)
        self.assertEqual((error.where, error.at), ("start", 3))

    def test_values_are_each_objects_own(self):
        one = errors.Twice("top", "a")
        other = errors.Twice("low", "b")
        self.assertEqual((one.part, one.name, other.part, other.name), ("top", "a", "low", "b"))

    def test_those_without_values(self):
        for name in set(NAMES) - set(OF_A_PART) - {"Ring", "NoPaper"}:
            with self.subTest(name), self.assertRaises(errors.ForgeError):
                raise getattr(errors, name)("why")


if __name__ == "__main__":
    unittest.main()

import unittest

from voteclashes import errors

PLAIN = (
    "BadSize", "BadRow", "BadName", "BadPerson", "BadAxiom", "BadAxioms",
    "NotAlike", "NotText", "InvalidText", "NothingToUndo",
)


class ErrorTests(unittest.TestCase):
    def test_base(self):
        self.assertEqual(errors.VoteError.__bases__, (ValueError,))

    def test_direct_subclasses(self):
        for name in PLAIN + ("BadRule",):
            with self.subTest(name):
                self.assertEqual(getattr(errors, name).__bases__, (errors.VoteError,))

    def test_plain_errors_can_be_raised(self):
        for name in PLAIN:
            with self.subTest(name):
                with self.assertRaises(errors.VoteError):
                    raise getattr(errors, name)("words")

    def test_bad_rule_has_its_index(self):
        self.assertEqual(errors.BadRule(3).index, 3)
        self.assertEqual(errors.BadRule(0).index, 0)
        self.assertIsNone(errors.BadRule(None).index)


if __name__ == "__main__":
    unittest.main()

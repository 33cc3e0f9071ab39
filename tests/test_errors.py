import unittest

from unsaidsizes import errors

NAMES = """NoQuantity NoLaw NotASet NotExact WrongSize NotGreatest NotFull Loose Tied Rests Hangs BadWish BadOrder
NotSquare TooLarge NotMarks NotAPaper NotAChoice OutOfRange NoSize BadSize NoRatio TooMany BadName TakenName NoPart
NoName SamePlace BadLine Needed NotModel Refused NothingToUndo NoPromise""".split()


class TestErrors(unittest.TestCase):
    def test_classes(self):
        self.assertEqual(errors.ModelError.__bases__, (ValueError,))
        for name in NAMES:
            self.assertEqual(getattr(errors, name).__bases__, (errors.ModelError,), name)
            self.assertEqual(getattr(errors, name).__module__, "unsaidsizes.errors")
        self.assertEqual(len(set(NAMES)), 34)

    def test_at_is_any_integer(self):
        for at in (0, -1, 7, 10 ** 400, -(10 ** 9000)):
            for name in ["ModelError"] + NAMES:
                error = getattr(errors, name)(at)
                self.assertEqual(error.at, at)
                self.assertIn(name, str(error))

    def test_none_catches_another(self):
        with self.assertRaises(errors.NoLaw):
            try:
                raise errors.NoLaw(3)
            except errors.NoQuantity:
                pass


if __name__ == "__main__":
    unittest.main()

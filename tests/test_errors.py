"""The refusals: their classes and fields."""

import unittest

from pickline import errors


class Classes(unittest.TestCase):

    def test_all_stand_straight_under_pick_error(self):
        self.assertEqual(errors.PickError.__bases__, (ValueError,))
        for name in ("BadTrunk", "BadLine", "BadChange", "BadNames", "BadNumber", "BadRows",
                     "Barring", "NoDeed"):
            with self.subTest(name):
                self.assertEqual(getattr(errors, name).__bases__, (errors.PickError,))

    def test_all_are_raised_and_caught_by_their_names(self):
        for bad in (errors.BadLine, errors.BadChange, errors.BadNames, errors.BadNumber, errors.NoDeed):
            with self.assertRaises(bad):
                raise bad("a word")

    def test_fields(self):
        self.assertEqual(errors.BadTrunk(3).place, 3)
        self.assertEqual(errors.BadRows(0).row, 0)
        self.assertEqual(errors.Barring(["a", "b"]).chain, ["a", "b"])

    def test_a_barrings_chain_is_its_own(self):
        chain = ["a", "b"]
        barring = errors.Barring(chain)
        chain.append("c")
        self.assertEqual(barring.chain, ["a", "b"])
        barring.chain.clear()
        self.assertEqual(chain, ["a", "b", "c"])


if __name__ == "__main__":
    unittest.main()

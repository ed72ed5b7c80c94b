"""That what the tests make is as various as they need it."""

import unittest

from tests import made


class Variety(unittest.TestCase):

    def test_sizes_backings_and_picks(self):
        told = [(trunk, line) for rng, trunk, line in made.made(240)]
        self.assertEqual({len(trunk) for trunk, line in told}, set(range(1, 25)))
        self.assertEqual({len(line[2]) for trunk, line in told}, set(range(17)))
        self.assertTrue(any(line[1] == 0 and line[2] for trunk, line in told))
        self.assertTrue(any(line[1] == len(trunk) and line[2] for trunk, line in told))
        backs = [name for trunk, line in told for name in line[2] if made.by_name(trunk, name)[2]]
        self.assertGreater(len(backs), 100)

    def test_some_are_backed_and_picked_again(self):
        again = 0
        for rng, trunk, line in made.made(240):
            row = made.row_of(trunk, line)
            again += len([name for name in made.had(trunk, line) if row.count(name) > 1])
        self.assertGreater(again, 30)

    def test_all_stand(self):
        for rng, trunk, line in made.made(120):
            self.assertTrue(made.stands(trunk, [change[0] for change in trunk]))
            self.assertTrue(made.stands(trunk, made.row_of(trunk, line)))


if __name__ == "__main__":
    unittest.main()

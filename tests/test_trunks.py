"""Trunks, rows and lines; what a line has, what hangs, editions, what sets two lines apart."""

import copy
import unittest

from pickline.errors import BadChange, BadLine, BadNumber, BadTrunk
from pickline.trunks import apart, editions, hangs, has
from tests import made
from tests.made import backing, plain

# a <- b <- d, a <- c; e backs d.
TRUNK = [plain("a"), plain("b", ["a"], ["x"]), plain("c", ["a"], [], ["x"]), plain("d", ["b"]),
         backing("e", "d"), plain("f")]
NO_NAMES = ("", "abcdefghi", "A", "a1", "a b", "a\n", " ", "_", None, 7, True, b"a", ["a"], ("a",))
NO_LISTS = (None, "", "a", (), ("a",), {}, {"a": True}, set(), 0, 5, False, True, b"")


def letters(many):
    """So many names, unlike each other."""
    return [chr(97 + at // 26) + chr(97 + at % 26) for at in range(many)]


def plains(many):
    return [plain(name) for name in letters(many)]


class Trunks(unittest.TestCase):
    """Point 2, and the trunk's own row of point 3."""

    def refused(self, trunk, place):
        with self.subTest(trunk=trunk):
            with self.assertRaises(BadTrunk) as caught:
                has(trunk, ("l", 0, []))
            self.assertEqual(caught.exception.place, place)
            self.assertNotIsInstance(caught.exception.place, bool)

    def test_the_least_and_the_most(self):
        self.assertEqual(has([plain("a")], ("l", 1, [])), ["a"])
        self.assertEqual(has(plains(24), ("l", 24, [])), letters(24))
        self.assertEqual(has([plain("abcdefgh")], ("l", 1, [])), ["abcdefgh"])
        self.assertEqual(has([plain("z")], ("l", 0, ["z"])), ["z"])

    def test_no_list_or_none(self):
        for trunk in NO_LISTS + ([], TRUNK[0], tuple(TRUNK)):
            self.refused(trunk, 0)

    def test_more_than_twenty_four(self):
        self.refused(plains(25), 24)
        self.refused(plains(40), 24)

    def test_the_first_of_many_faulty_ones(self):
        trunk = plains(30)
        trunk[5] = None
        trunk[9] = None
        self.refused(trunk, 5)
        self.refused(plains(24) + [None], 24)

    def test_no_change(self):
        good = plain("b")
        shapes = (None, "b", 5, True, [], list(good), good[:4], good + (None,), (), {"b": good})
        for bad in shapes:
            self.refused([plain("a"), bad, plain("c")], 1)
            self.refused([bad], 0)

    def test_no_name(self):
        for bad in NO_NAMES:
            self.refused([plain("a"), (bad, [], None, [], [])], 1)

    def test_two_of_one_name(self):
        self.refused([plain("a"), plain("b"), plain("c"), plain("b")], 3)
        self.refused([plain("a"), plain("b"), backing("a", "b")], 2)

    def test_leanings(self):
        for bad in NO_LISTS:
            self.refused([plain("a"), ("b", bad, None, [], [])], 1)
        for bad in NO_NAMES:
            self.refused([plain("a"), ("b", [bad], None, [], [])], 1)
            self.refused([plain("a"), ("b", ["a", bad], None, [], [])], 1)
        self.refused([plain("a"), plain("b", ["a", "a"])], 1)
        self.refused([plain("a"), plain("b", ["b"])], 1)
        self.refused([plain("a"), plain("b", ["c"]), plain("c")], 1)
        self.refused([plain("a"), plain("b", ["zz"])], 1)
        self.refused([plain("a"), backing("b", "a"), plain("c", ["b"])], 2)
        self.refused([plain("a"), backing("b", "a"), plain("c"), backing("d", "c", ["b"])], 3)

    def test_what_is_backed(self):
        for bad in NO_NAMES + (False, 0, [], {}):
            if bad is not None:
                self.refused([plain("a"), ("b", [], bad, [], [])], 1)
        self.refused([plain("a"), backing("b", "b")], 1)
        self.refused([plain("a"), backing("b", "c"), plain("c")], 1)
        self.refused([plain("a"), backing("b", "zz")], 1)
        self.refused([plain("a"), backing("b", "a"), backing("c", "b")], 2)

    def test_faults(self):
        for part in (3, 4):
            for bad in NO_LISTS + tuple([name] for name in NO_NAMES) + (["x", "y", "x"],):
                change = ["b", [], None, ["v"], ["w"]]
                change[part] = bad
                self.refused([plain("a"), tuple(change)], 1)
        both = [plain("a", [], ["x", "a"], ["x", "a"])]
        self.assertEqual(has(both, ("l", 1, [])), ["a"])

    def test_a_backing_change_brings_and_mends_none(self):
        self.refused([plain("a"), ("b", [], "a", ["x"], [])], 1)
        self.refused([plain("a"), ("b", [], "a", [], ["x"])], 1)
        self.assertEqual(has([plain("a"), ("b", [], "a", [], [])], ("l", 2, [])), [])

    def test_a_trunks_own_row_stands(self):
        a, b = plain("a"), plain("b", ["a"])
        self.refused([a, b, backing("c", "a")], 2)
        self.refused([a, backing("c", "a"), b], 2)
        self.refused([a, backing("c", "a"), backing("d", "a")], 2)
        self.refused([a, plain("f"), backing("c", "a"), backing("d", "f", ["a"])], 3)
        fine = [a, b, backing("c", "b", ["a", "b"]), backing("d", "a"), plain("e")]
        self.assertEqual(has(fine, ("l", 5, [])), ["e"])


class Lines(unittest.TestCase):
    """Point 4, and rows of point 3."""

    def refused(self, line, trunk=TRUNK):
        with self.subTest(line=line):
            with self.assertRaises(BadLine):
                has(trunk, line)
            with self.assertRaises(BadLine):
                hangs(trunk, line, "a")
            with self.assertRaises(BadLine):
                editions(trunk, line, 0, 0)
            with self.assertRaises(BadLine):
                apart(trunk, line, ("l", 0, []))
            with self.assertRaises(BadLine):
                apart(trunk, ("l", 0, []), line)

    def test_none_and_all_of_the_first_ones(self):
        self.assertEqual(has(TRUNK, ("l", 0, [])), [])
        self.assertEqual(has(TRUNK, ("l", 4, [])), ["a", "b", "c", "d"])
        self.assertEqual(has(TRUNK, ("l", 5, [])), ["a", "b", "c"])
        self.assertEqual(has(TRUNK, ("l", 6, [])), ["a", "b", "c", "f"])

    def test_told_in_the_trunks_order(self):
        self.assertEqual(has(TRUNK, ("l", 0, ["f", "a", "c", "b"])), ["a", "b", "c", "f"])

    def test_backed_and_picked_again(self):
        self.assertEqual(has(TRUNK, ("l", 4, ["e"])), ["a", "b", "c"])
        self.assertEqual(has(TRUNK, ("l", 6, ["d"])), ["a", "b", "c", "d", "f"])
        self.assertEqual(has(TRUNK, ("l", 6, ["d", "e"])), ["a", "b", "c", "f"])
        self.assertEqual(has(TRUNK, ("l", 6, ["d", "e", "d"])), ["a", "b", "c", "d", "f"])

    def test_no_picks_and_forty(self):
        turns = ["d", "e"] * 20
        self.assertEqual(has(TRUNK, ("l", 6, turns)), ["a", "b", "c", "f"])
        self.assertEqual(has(TRUNK, ("l", 6, turns[:39])), ["a", "b", "c", "d", "f"])
        self.refused(("l", 6, turns + ["d"]))

    def test_no_triple(self):
        for bad in (None, 0, True, "l", [], ["l", 0, []], {}, (), ("l", 0), ("l", 0, [], [])):
            self.refused(bad)

    def test_no_name(self):
        for bad in NO_NAMES:
            self.refused((bad, 0, []))

    def test_no_number(self):
        for bad in (None, "0", "", [], (), True, False, b"1", -1, 7, 10 ** 30):
            self.refused(("l", bad, []))

    def test_no_picks_that_can_be(self):
        for bad in NO_LISTS:
            self.refused(("l", 0, bad))
        for bad in NO_NAMES + ("zz", "x", "l"):
            self.refused(("l", 0, [bad]))
            self.refused(("l", 0, ["a", bad]))

    def test_the_row_must_stand(self):
        self.refused(("l", 0, ["b"]))
        self.refused(("l", 0, ["b", "a"]))
        self.refused(("l", 1, ["a"]))
        self.refused(("l", 0, ["a", "a"]))
        self.refused(("l", 3, ["e"]))
        self.refused(("l", 5, ["e"]))
        self.refused(("l", 6, ["d", "d"]))
        later = TRUNK + [plain("g", ["d"]), backing("h", "g")]
        with self.assertRaises(BadTrunk) as caught:
            has(later, ("l", 0, []))
        self.assertEqual(caught.exception.place, 6)
        trunk = [plain("a"), plain("b", ["a"]), backing("c", "b"), backing("d", "a")]
        self.assertEqual(has(trunk, ("l", 2, ["c", "d"])), [])
        self.refused(("l", 2, ["d"]), trunk)
        self.refused(("l", 4, ["b"]), trunk)
        self.refused(("l", 0, ["d"]), trunk)

    def test_a_backing_change_leans_on_what_is_live(self):
        trunk = [plain("a"), plain("b"), backing("c", "b", ["a"])]
        self.assertEqual(has(trunk, ("l", 2, ["c"])), ["a"])
        self.refused(("l", 0, ["b", "c"]), trunk)
        self.assertEqual(has(trunk, ("l", 0, ["b", "a", "c"])), ["a"])

    def test_the_trunk_is_refused_ahead_of_the_line(self):
        for ask in (lambda: has([None], None), lambda: hangs([None], None, None),
                    lambda: editions([None], None, None, None), lambda: apart([None], None, None)):
            with self.assertRaises(BadTrunk) as caught:
                ask()
            self.assertEqual(caught.exception.place, 0)

    def test_as_the_document_words_it(self):
        for rng, trunk, line in made.made(240):
            self.assertEqual(has(trunk, line), made.had(trunk, line), (trunk, line))

    def test_just_the_picks_behind_which_a_row_stands(self):
        for rng, trunk, line in made.made(72, most=6):
            name, many, picks = line
            for change in trunk:
                longer = (name, many, picks + [change[0]])
                if made.follows(trunk, made.row_of(trunk, line), change[0]):
                    self.assertEqual(has(trunk, longer), made.had(trunk, longer))
                else:
                    self.refused(longer, trunk)


class Hanging(unittest.TestCase):
    """Point 6."""

    def test_over_several_leanings(self):
        self.assertEqual(hangs(TRUNK, ("l", 4, []), "a"), ["b", "c", "d"])
        self.assertEqual(hangs(TRUNK, ("l", 4, []), "b"), ["d"])
        self.assertEqual(hangs(TRUNK, ("l", 4, []), "d"), [])

    def test_only_what_the_line_has(self):
        self.assertEqual(hangs(TRUNK, ("l", 6, []), "a"), ["b", "c"])
        self.assertEqual(hangs(TRUNK, ("l", 6, ["d"]), "b"), ["d"])
        self.assertEqual(hangs(TRUNK, ("l", 0, ["f", "a", "c", "b"]), "a"), ["b", "c"])

    def test_no_change_that_the_line_has(self):
        for bad in NO_NAMES + ("zz", "d", "e", "x", ["b"], {}):
            with self.subTest(bad), self.assertRaises(BadChange):
                hangs(TRUNK, ("l", 6, []), bad)
        with self.assertRaises(BadChange):
            hangs(TRUNK, ("l", 0, []), "a")

    def test_the_line_is_refused_ahead_of_the_change(self):
        with self.assertRaises(BadLine):
            hangs(TRUNK, ("l", 0, ["b"]), None)

    def test_as_the_document_words_it(self):
        for rng, trunk, line in made.made(240):
            names = made.had(trunk, line)
            for name in names:
                due = [word for word in names if word != name
                       and name in made.comes_with(trunk, [word])]
                self.assertEqual(hangs(trunk, line, name), due)
            for word in made.WORDS:
                if word not in names:
                    self.assertRaises(BadChange, hangs, trunk, line, word)


class Editions(unittest.TestCase):
    """Point 10."""

    LINE = ("l", 4, ["e", "f", "d", "e"])

    def test_what_came_and_went(self):
        self.assertEqual(editions(TRUNK, self.LINE, 0, 2), (["f"], ["d"]))
        self.assertEqual(editions(TRUNK, self.LINE, 2, 0), (["d"], ["f"]))
        self.assertEqual(editions(TRUNK, self.LINE, 0, 3), (["f"], []))
        self.assertEqual(editions(TRUNK, self.LINE, 3, 4), ([], ["d"]))
        self.assertEqual(editions(TRUNK, self.LINE, 0, 4), (["f"], ["d"]))

    def test_the_same_edition(self):
        for many in range(5):
            self.assertEqual(editions(TRUNK, self.LINE, many, many), ([], []))
        self.assertEqual(editions(TRUNK, ("l", 0, []), 0, 0), ([], []))

    def test_all_of_forty_picks(self):
        line = ("l", 4, ["e", "d"] * 20)
        self.assertEqual(editions(TRUNK, line, 39, 40), (["d"], []))
        self.assertEqual(editions(TRUNK, line, 0, 40), ([], []))
        self.assertRaises(BadNumber, editions, TRUNK, line, 0, 41)

    def test_told_in_the_trunks_order(self):
        line = ("l", 0, ["f", "a", "c", "b"])
        told = editions(TRUNK, line, 0, 4)
        self.assertEqual(told, (["a", "b", "c", "f"], []))
        self.assertIsInstance(told, tuple)
        self.assertEqual(editions(TRUNK, line, 4, 0), ([], ["a", "b", "c", "f"]))

    def test_no_number_of_picks(self):
        for bad in (-1, 5, 10 ** 30, True, False, None, "1", [], (), b"0"):
            with self.subTest(bad):
                self.assertRaises(BadNumber, editions, TRUNK, self.LINE, bad, 0)
                self.assertRaises(BadNumber, editions, TRUNK, self.LINE, 0, bad)

    def test_the_line_is_refused_ahead_of_the_number(self):
        with self.assertRaises(BadLine):
            editions(TRUNK, ("l", 0, ["b"]), None, None)

    def test_as_the_document_words_it(self):
        for rng, trunk, line in made.made(72):
            name, many, picks = line
            had = [made.had(trunk, (name, many, picks[:some])) for some in range(len(picks) + 1)]
            for one, elder in enumerate(had):
                for other, newer in enumerate(had):
                    came = [change for change in newer if change not in elder]
                    went = [change for change in elder if change not in newer]
                    self.assertEqual(editions(trunk, line, one, other), (came, went))


class Apart(unittest.TestCase):
    """Point 11."""

    def test_the_first_that_one_has(self):
        self.assertEqual(apart(TRUNK, ("l", 1, []), ("m", 3, [])), "b")
        self.assertEqual(apart(TRUNK, ("m", 3, []), ("l", 1, [])), "b")
        self.assertEqual(apart(TRUNK, ("l", 1, ["f", "c"]), ("m", 2, ["f"])), "b")
        self.assertEqual(apart(TRUNK, ("l", 4, []), ("m", 6, [])), "d")

    def test_two_that_have_the_same(self):
        self.assertIsNone(apart(TRUNK, ("l", 0, []), ("l", 0, [])))
        self.assertIsNone(apart(TRUNK, ("l", 6, []), ("m", 0, ["a", "c", "f", "b"])))
        self.assertIsNone(apart(TRUNK, ("l", 4, ["e"]), ("m", 3, [])))

    def test_as_the_document_words_it(self):
        for rng, trunk, line in made.made(240):
            other = made.made_line(rng, trunk, "m", 16)
            mine, others = made.had(trunk, line), made.had(trunk, other)
            due = [change[0] for change in trunk if (change[0] in mine) + (change[0] in others) == 1]
            self.assertEqual(apart(trunk, line, other), (due + [None])[0])


class AskersOwn(unittest.TestCase):
    """Point 1 over all of these."""

    LINE = ("l", 4, ["f"])

    def questions(self):
        return (lambda: has(TRUNK, self.LINE),
                lambda: hangs(TRUNK, self.LINE, "a"),
                lambda: editions(TRUNK, self.LINE, 0, 1)[0],
                lambda: editions(TRUNK, self.LINE, 1, 0)[1])

    def test_what_is_told_is_new_each_time(self):
        for ask in self.questions():
            told = ask()
            self.assertIsInstance(told, list)
            due = list(told)
            told.reverse()
            told.append("zz")
            self.assertEqual(ask(), due)

    def test_what_was_handed_in_stays(self):
        for rng, trunk, line in made.made(48):
            other = made.made_line(rng, trunk, "m", 6)
            kept = copy.deepcopy((trunk, line, other))
            names = has(trunk, line)
            for name in names:
                hangs(trunk, line, name).append("zz")
            editions(trunk, line, 0, len(line[2]))[0].clear()
            apart(trunk, line, other)
            names.clear()
            self.assertEqual((trunk, line, other), kept)

    def test_what_was_refused_stays(self):
        for trunk, line in (([plain("a"), plain("b", ["c"])], ("l", 0, [])), (TRUNK, ("l", 2, ["d", "b"]))):
            kept = copy.deepcopy((trunk, line))
            self.assertRaises((BadTrunk, BadLine), has, trunk, line)
            self.assertEqual((trunk, line), kept)

    def test_nothing_is_kept_between_questions(self):
        trunk = plains(3)
        line = ("l", 1, [])
        self.assertEqual(has(trunk, line), ["aa"])
        line[2].append("ac")
        self.assertEqual(has(trunk, line), ["aa", "ac"])
        trunk[2][1].append("ab")
        self.assertRaises(BadLine, has, trunk, line)


if __name__ == "__main__":
    unittest.main()

"""pick: the least lot that a change needs, or a chain to what bars it; reach: which lines have a fault."""

import copy
import unittest

from pickline.answers import Barred, Lot
from pickline.errors import BadChange, BadLine, BadNames, BadTrunk
from pickline.picking import pick, reach
from tests import made
from tests.made import backing, plain
from tests.test_answers import spoiled
from tests.test_trunks import NO_LISTS, NO_NAMES

# a <- b <- d <- f, c <- d, b <- e; h backs g.
TRUNK = [plain("a"), plain("b", ["a"], ["x"]), plain("c", [], ["y"]), plain("d", ["b", "c"], [], ["x"]),
         plain("e", ["b"], ["y"], ["x"]), plain("f", ["d"], [], ["y"]), plain("g", [], ["v"]),
         backing("h", "g")]
EMPTY = ("l", 0, [])
LINE = ("l", 2, [])


class Picks(unittest.TestCase):
    """Point 5."""

    def lot(self, due, *asked):
        told = pick(*asked)
        self.assertIsInstance(told, Lot)
        self.assertEqual(told.names, due)

    def barred(self, due, *asked):
        told = pick(*asked)
        self.assertIsInstance(told, Barred)
        self.assertEqual(told.chain, due)

    def test_a_lot_in_the_trunks_order(self):
        self.lot(["a", "b", "c", "d", "f"], TRUNK, EMPTY, "f")
        self.lot(["a", "b", "e"], TRUNK, EMPTY, "e")
        self.lot(["c"], TRUNK, EMPTY, "c")
        self.lot(["c", "d"], TRUNK, LINE, "d")
        self.lot(["d", "f"], TRUNK, ("l", 0, ["c", "a", "b"]), "f")

    def test_a_change_that_the_line_has(self):
        self.lot([], TRUNK, LINE, "a")
        self.lot([], TRUNK, LINE, "b", ["b", "a"])
        self.lot([], TRUNK, ("l", 0, ["g"]), "g", ["g"])

    def test_what_was_backed_is_picked_again(self):
        self.lot(["g"], TRUNK, ("l", 8, []), "g")
        self.lot(["g"], TRUNK, ("l", 7, ["h"]), "g")
        self.lot([], TRUNK, ("l", 8, ["g"]), "g")
        self.lot(["g"], TRUNK, ("l", 8, ["g", "h"]), "g")
        trunk = [plain("a"), plain("b", ["a"]), backing("c", "b"), backing("d", "a")]
        self.lot(["a", "b"], trunk, ("l", 4, []), "b")
        self.lot(["b"], trunk, ("l", 3, []), "b")
        self.barred(["b", "a"], trunk, ("l", 4, []), "b", ["a"])
        self.lot(["b"], trunk, ("l", 3, []), "b", ["a"])

    def test_no_barred_names_and_none(self):
        self.lot(["c", "d"], TRUNK, LINE, "d", None)
        self.lot(["c", "d"], TRUNK, LINE, "d", [])
        self.assertEqual(pick(TRUNK, LINE, "d", barred=["c"]), Barred(["d", "c"]))

    def test_barred_names_that_bar_nothing(self):
        self.lot(["c", "d"], TRUNK, LINE, "d", ["a", "b"])
        self.lot(["c", "d"], TRUNK, LINE, "d", ["zz", "h", "e", "f", "e", "line"])

    def test_a_chain(self):
        self.barred(["d"], TRUNK, LINE, "d", ["d"])
        self.barred(["d", "c"], TRUNK, LINE, "d", ["c"])
        self.barred(["f", "d", "c"], TRUNK, LINE, "f", ["zz", "c", "a"])
        self.barred(["e", "b"], TRUNK, EMPTY, "e", ["b"])
        self.barred(["e", "b", "a"], TRUNK, EMPTY, "e", ["a", "c"])

    def test_over_many_leanings(self):
        trunk = [plain(name, made.WORDS[:at]) for at, name in enumerate(made.WORDS)]
        self.lot(list(made.WORDS), trunk, EMPTY, made.WORDS[-1])
        self.lot(list(made.WORDS), trunk, EMPTY, made.WORDS[-1], ["nowhere"])
        self.assertTrue(pick(trunk, EMPTY, made.WORDS[-1], ["a"]).shows(trunk, EMPTY, made.WORDS[-1], ["a"]))

    def test_a_lot_beyond_forty_picks(self):
        turns = ["g", "h"] * 19
        self.lot(["a", "b", "c", "d", "f"], TRUNK, ("l", 0, turns), "f")
        self.lot(["a", "b", "c", "d", "f"], TRUNK, ("l", 0, turns + ["g", "h"]), "f")
        self.lot([], TRUNK, ("l", 0, turns + ["g", "c"]), "g")

    def test_no_plain_change(self):
        for bad in NO_NAMES + ("zz", "h", "x", "l", {}, [], ["a"]):
            with self.subTest(bad):
                self.assertRaises(BadChange, pick, TRUNK, LINE, bad)
                self.assertRaises(BadChange, pick, TRUNK, LINE, bad, "no list")

    def test_barred_is_no_list_of_names(self):
        for bad in NO_LISTS[1:] + tuple([name] for name in NO_NAMES) + (["a", None], ["a", "b", "C"]):
            with self.subTest(bad):
                self.assertRaises(BadNames, pick, TRUNK, LINE, "d", bad)
                self.assertRaises(BadNames, pick, TRUNK, LINE, "a", bad)

    def test_which_refusal_goes_first(self):
        self.assertRaises(BadTrunk, pick, [], None, None, 0)
        self.assertRaises(BadLine, pick, TRUNK, ("l", 9, []), None, 0)
        self.assertRaises(BadChange, pick, TRUNK, LINE, "h", 0)

    def test_as_the_document_words_it(self):
        lots = chains = 0
        for rng, trunk, line in made.made(160, sizes=(1, 2, 4, 6, 7, 8), most=8):
            for barred in ([], made.made_barred(rng, trunk, line), made.made_barred(rng, trunk, line)):
                for change in trunk:
                    if change[2] is not None:
                        self.assertRaises(BadChange, pick, trunk, line, change[0], barred)
                        continue
                    told = pick(trunk, line, change[0], barred)
                    due = made.least_lot(trunk, line, change[0], barred)
                    self.assertIs(told.shows(trunk, line, change[0], barred), True)
                    if due is None:
                        chains += 1
                        self.assertIsInstance(told, Barred)
                        self.assertTrue(made.is_chain(trunk, line, change[0], told.chain, barred))
                    else:
                        lots += len(due) > 1
                        self.lot(due, trunk, line, change[0], barred)
        self.assertGreater(min(lots, chains), 60, (lots, chains))

    def test_larger_trunks(self):
        for rng, trunk, line in made.made(120):
            held = made.had(trunk, line)
            barred = made.made_barred(rng, trunk, line)
            for change in trunk:
                if change[2] is None:
                    comes = made.comes_with(trunk, [change[0]])
                    due = [word[0] for word in trunk if word[0] in comes and word[0] not in held]
                    told = pick(trunk, line, change[0], barred)
                    if any(name in barred for name in due):
                        self.assertTrue(made.is_chain(trunk, line, change[0], told.chain, barred))
                    else:
                        self.assertEqual(told, Lot(due))

    def test_asked_about_another_change(self):
        for rng, trunk, line in made.made(60, sizes=(5, 7, 9), most=6):
            barred = made.made_barred(rng, trunk, line)
            names = [change[0] for change in trunk if change[2] is None]
            answers = [pick(trunk, line, name, barred) for name in names]
            for told in answers:
                for name, due in zip(names, answers):
                    if isinstance(told, Lot):
                        good = told == due
                    else:
                        good = made.is_chain(trunk, line, name, told.chain, barred)
                    self.assertIs(told.shows(trunk, line, name, barred), good)
                for change in trunk:
                    if change[2] is not None:
                        self.assertIs(told.shows(trunk, line, change[0], barred), False)

    def test_what_was_told_spoiled(self):
        for rng, trunk, line in made.made(80, sizes=(6, 8, 10), most=6):
            barred = made.made_barred(rng, trunk, line)
            for change in trunk:
                if change[2] is None:
                    self.spoil(pick(trunk, line, change[0], barred), trunk, line, change[0], barred)

    def spoil(self, told, trunk, line, name, barred):
        if isinstance(told, Lot):
            due = list(told.names)
            for names in spoiled(due, trunk[0][0]) + spoiled(due, "nowhere") + [due[::-1], [], due]:
                told.names = names
                self.assertIs(told.shows(trunk, line, name, barred), names == due)
        else:
            due = list(told.chain)
            for chain in spoiled(due, trunk[0][0]) + spoiled(due, "nowhere") + [due[::-1], [], due]:
                told.chain = chain
                good = made.is_chain(trunk, line, name, chain, barred)
                self.assertIs(told.shows(trunk, line, name, barred), good)

    def test_the_fields_are_the_askers_own(self):
        lot, chain = pick(TRUNK, LINE, "f"), pick(TRUNK, LINE, "f", ["c"])
        lot.names.append("g")
        chain.chain.pop()
        self.assertIs(lot.shows(TRUNK, LINE, "f", []), False)
        self.assertIs(chain.shows(TRUNK, LINE, "f", ["c"]), False)
        self.assertEqual(pick(TRUNK, LINE, "f"), Lot(["c", "d", "f"]))
        self.assertEqual(pick(TRUNK, LINE, "f", ["c"]), Barred(["f", "d", "c"]))

    def test_what_was_handed_in_stays(self):
        for rng, trunk, line in made.made(48):
            barred = made.made_barred(rng, trunk, line)
            kept = copy.deepcopy((trunk, line, barred))
            for change in trunk:
                if change[2] is None:
                    told = pick(trunk, line, change[0], barred)
                    (told.names if isinstance(told, Lot) else told.chain).append("zz")
            self.assertEqual((trunk, line, barred), kept)


class Reaches(unittest.TestCase):
    """Point 7."""

    LINES = [("all", 8, []), ("none", 0, []), ("two", 2, []), ("c", 3, []), ("g", 0, ["g"]),
             ("backed", 0, ["g", "h"]), ("again", 8, ["g"]), ("e", 2, ["c", "e"])]

    def test_the_first_change_that_brings_it(self):
        self.assertEqual(reach(TRUNK, self.LINES, "x"), [("two", "b"), ("c", "b")])
        self.assertEqual(reach(TRUNK, self.LINES, "y"), [("c", "c"), ("e", "c")])
        self.assertEqual(reach(TRUNK, self.LINES, "v"), [("g", "g"), ("again", "g")])

    def test_the_lines_in_turn(self):
        self.assertEqual(reach(TRUNK, self.LINES[::-1], "x"), [("c", "b"), ("two", "b")])
        told = reach(TRUNK, self.LINES, "v")
        self.assertIsInstance(told, list)
        self.assertIsInstance(told[0], tuple)

    def test_the_first_that_the_line_has(self):
        self.assertEqual(reach(TRUNK, [("l", 0, ["a", "b", "e"])], "y"), [("l", "e")])
        self.assertEqual(reach(TRUNK, [("l", 0, ["a", "b", "e", "c"])], "y"), [("l", "c")])

    def test_no_lines_and_no_such_fault(self):
        self.assertEqual(reach(TRUNK, [], "x"), [])
        self.assertEqual(reach(TRUNK, self.LINES, "w"), [])
        self.assertEqual(reach(TRUNK, self.LINES, "abcdefgh"), [])

    def test_what_both_brings_and_mends(self):
        self.assertEqual(reach([plain("a", [], ["x"], ["x"])], [("l", 1, [])], "x"), [])
        trunk = [plain("a", [], ["x"]), plain("b", [], [], ["x"]), backing("c", "b")]
        lines = [("one", 1, []), ("two", 2, []), ("three", 3, [])]
        self.assertEqual(reach(trunk, lines, "x"), [("one", "a"), ("three", "a")])

    def test_no_list_of_lines(self):
        for bad in NO_LISTS + (("l", 0, []), self.LINES[0], tuple(self.LINES)):
            with self.subTest(bad):
                self.assertRaises(BadLine, reach, TRUNK, bad, "x")
        for bad in (None, 0, "l", [], ["l", 0, []], ("l", 9, []), ("l", True, []), ("l", 0, ["b"]), ("", 0, [])):
            for at in range(3):
                lines = self.LINES[:2]
                lines.insert(at, bad)
                self.assertRaises(BadLine, reach, TRUNK, lines, "x")

    def test_two_of_one_name(self):
        self.assertRaises(BadLine, reach, TRUNK, [("l", 0, []), ("l", 0, [])], "x")
        self.assertRaises(BadLine, reach, TRUNK, self.LINES + [("none", 3, ["d"])], "x")

    def test_no_fault(self):
        for bad in NO_NAMES + ([], {}, ["x"]):
            with self.subTest(bad):
                self.assertRaises(BadNames, reach, TRUNK, self.LINES, bad)
                self.assertRaises(BadNames, reach, TRUNK, [], bad)

    def test_which_refusal_goes_first(self):
        self.assertRaises(BadTrunk, reach, None, None, None)
        self.assertRaises(BadLine, reach, TRUNK, None, None)

    def test_as_the_document_words_it(self):
        told = 0
        for rng, trunk, line in made.made(96):
            lines = made.made_lines(rng, trunk, rng.randint(0, 12), 16)
            kept = copy.deepcopy((trunk, lines))
            for fault in made.FAULTS + ("nowhere",):
                due = []
                for line in lines:
                    held = made.had(trunk, line)
                    if made.has_fault(trunk, held, fault):
                        due.append((line[0], [name for name in held if fault in made.by_name(trunk, name)[3]][0]))
                told += len(due)
                self.assertEqual(reach(trunk, lines, fault), due)
                reach(trunk, lines, fault).clear()
            self.assertEqual((trunk, lines), kept)
        self.assertGreater(told, 200)


if __name__ == "__main__":
    unittest.main()

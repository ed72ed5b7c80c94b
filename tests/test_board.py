"""A board: cut, pick, back, undo, lines and has."""

import copy
import random
import unittest

from pickline.board import Board
from pickline.errors import BadChange, BadLine, BadNames, BadNumber, BadTrunk, Barring, NoDeed
from tests import made
from tests.made import backing, plain
from tests.test_trunks import NO_LISTS, NO_NAMES, plains

# a <- b <- d, c <- d; f backs e, g backs d and leans on a.
TRUNK = [plain("a"), plain("b", ["a"], ["x"]), plain("c"), plain("d", ["b", "c"], [], ["x"]), plain("e"),
         backing("f", "e"), backing("g", "d", ["a"]), plain("h", ["c"])]


def board(*cuts):
    told = Board(TRUNK)
    for name, many in cuts:
        told.cut(name, many)
    return told


class Deeds(unittest.TestCase):

    def test_a_board_without_lines(self):
        told = Board(TRUNK)
        self.assertEqual(told.lines(), [])
        self.assertRaises(NoDeed, told.undo)
        self.assertRaises(BadLine, told.has, "l")
        self.assertRaises(BadLine, told.pick, "l", "a")
        self.assertRaises(BadLine, told.back, "l", "f")
        self.assertEqual(told.lines(), [])

    def test_methods_stand_in_the_class_itself(self):
        for name in ("cut", "pick", "back", "undo", "lines", "has"):
            self.assertIn(name, vars(Board))

    def test_cut(self):
        told = Board(TRUNK)
        self.assertIsNone(told.cut("l", 3))
        self.assertIsNone(told.cut("zz", 0))
        self.assertIsNone(told.cut("a", 8))
        self.assertEqual(told.lines(), [("l", 3, []), ("zz", 0, []), ("a", 8, [])])
        self.assertEqual(told.has("l"), ["a", "b", "c"])
        self.assertEqual(told.has("zz"), [])
        self.assertEqual(told.has("a"), ["a", "b", "c", "h"])

    def test_pick(self):
        told = board(("l", 1), ("m", 0))
        self.assertEqual(told.pick("l", "d"), ["b", "c", "d"])
        self.assertEqual(told.lines(), [("l", 1, ["b", "c", "d"]), ("m", 0, [])])
        self.assertEqual(told.pick("m", "h"), ["c", "h"])
        self.assertEqual(told.pick("m", "b", None), ["a", "b"])
        self.assertEqual(told.pick("m", "d", ["a", "zz"]), ["d"])
        self.assertEqual(told.lines(), [("l", 1, ["b", "c", "d"]), ("m", 0, ["c", "h", "a", "b", "d"])])
        self.assertEqual(told.has("m"), ["a", "b", "c", "d", "h"])

    def test_a_pick_of_none(self):
        told = board(("l", 2))
        self.assertEqual(told.pick("l", "b"), [])
        self.assertEqual(told.pick("l", "a", ["a"]), [])
        self.assertEqual(told.lines(), [("l", 2, [])])

    def test_back(self):
        told = board(("l", 4))
        self.assertIsNone(told.back("l", "g"))
        self.assertEqual(told.lines(), [("l", 4, ["g"])])
        self.assertEqual(told.has("l"), ["a", "b", "c"])
        self.assertEqual(told.pick("l", "d"), ["d"])
        told.back("l", "g")
        self.assertEqual(told.lines(), [("l", 4, ["g", "d", "g"])])

    def test_undo(self):
        told = board(("l", 1), ("m", 4))
        told.pick("l", "d")
        told.back("m", "g")
        self.assertIsNone(told.undo())
        self.assertEqual(told.lines(), [("l", 1, ["b", "c", "d"]), ("m", 4, [])])
        told.undo()
        self.assertEqual(told.lines(), [("l", 1, []), ("m", 4, [])])
        told.undo()
        self.assertEqual(told.lines(), [("l", 1, [])])
        self.assertRaises(BadLine, told.has, "m")
        told.undo()
        self.assertEqual(told.lines(), [])
        self.assertRaises(NoDeed, told.undo)
        told.cut("m", 2)
        self.assertEqual(told.lines(), [("m", 2, [])])

    def test_undo_behind_a_pick_of_none(self):
        told = board(("l", 2))
        told.pick("l", "c")
        told.pick("l", "c")
        told.undo()
        self.assertEqual(told.lines(), [("l", 2, ["c"])])
        told.undo()
        self.assertEqual(told.lines(), [("l", 2, [])])

    def test_undo_behind_an_undo(self):
        told = board(("l", 2))
        told.pick("l", "c")
        told.undo()
        told.pick("l", "h")
        told.undo()
        self.assertEqual(told.lines(), [("l", 2, [])])
        told.undo()
        self.assertEqual(told.lines(), [])
        self.assertRaises(NoDeed, told.undo)

    def test_what_was_refused_is_no_deed(self):
        told = board(("l", 2))
        told.pick("l", "c")
        self.assertRaises(BadLine, told.cut, "l", 0)
        self.assertRaises(Barring, told.pick, "l", "d", ["d"])
        self.assertRaises(BadChange, told.back, "l", "g")
        self.assertRaises(BadLine, told.has, "m")
        told.undo()
        self.assertEqual(told.lines(), [("l", 2, [])])

    def test_the_turn_of_the_lines(self):
        told = board(("m", 0), ("l", 0), ("a", 0))
        told.pick("a", "c")
        told.pick("m", "e")
        self.assertEqual([line[0] for line in told.lines()], ["m", "l", "a"])
        told.undo()
        told.undo()
        told.undo()
        told.cut("b", 0)
        told.cut("a", 1)
        self.assertEqual([line[0] for line in told.lines()], ["m", "l", "b", "a"])


class Refused(unittest.TestCase):

    def test_no_trunk(self):
        for bad in NO_LISTS + ([],):
            with self.assertRaises(BadTrunk) as caught:
                Board(bad)
            self.assertEqual(caught.exception.place, 0)
        for bad, place in ((plains(25), 24), (TRUNK + [None], 8), (TRUNK[1:], 0), (TRUNK[:2] + TRUNK[3:], 2)):
            with self.assertRaises(BadTrunk) as caught:
                Board(bad)
            self.assertEqual(caught.exception.place, place)

    def test_cut(self):
        told = board(("l", 0))
        for bad in NO_NAMES + ("l", [], {}):
            with self.subTest(bad):
                self.assertRaises(BadLine, told.cut, bad, 0)
        for bad in (-1, 9, 25, 10 ** 30, True, False, None, "1", [], ()):
            with self.subTest(bad):
                self.assertRaises(BadLine, told.cut, "m", bad)
        self.assertEqual(told.lines(), [("l", 0, [])])

    def test_no_lines_name(self):
        told = board(("l", 0))
        for bad in NO_NAMES + ("m", "a", [], {}, ("l", 0, [])):
            with self.subTest(bad):
                self.assertRaises(BadLine, told.pick, bad, "a")
                self.assertRaises(BadLine, told.pick, bad, None, 0)
                self.assertRaises(BadLine, told.back, bad, "f")
                self.assertRaises(BadLine, told.back, bad, None)
                self.assertRaises(BadLine, told.has, bad)
        self.assertEqual(told.lines(), [("l", 0, [])])

    def test_no_plain_change(self):
        told = board(("l", 5))
        for bad in NO_NAMES + ("zz", "f", "g", "x", "l", [], {}):
            with self.subTest(bad):
                self.assertRaises(BadChange, told.pick, "l", bad)
                self.assertRaises(BadChange, told.pick, "l", bad, 0)
        self.assertEqual(told.lines(), [("l", 5, [])])

    def test_barred_is_no_list_of_names(self):
        told = board(("l", 5))
        for bad in NO_LISTS[1:] + tuple([name] for name in NO_NAMES) + (["h", None],):
            with self.subTest(bad):
                self.assertRaises(BadNames, told.pick, "l", "h", bad)
                self.assertRaises(BadNames, told.pick, "l", "a", bad)
        self.assertEqual(told.lines(), [("l", 5, [])])

    def test_a_chain(self):
        told = board(("l", 1))
        for barred, due in ((["d"], ["d"]), (["c"], ["d", "c"]), (["b", "a"], ["d", "b"])):
            with self.assertRaises(Barring) as caught:
                told.pick("l", "d", barred)
            self.assertEqual(caught.exception.chain, due)
            caught.exception.chain.clear()
        with self.assertRaises(Barring) as caught:
            told.pick("l", "h", barred=["c", "h"])
        self.assertTrue(made.is_chain(TRUNK, ("l", 1, []), "h", caught.exception.chain, ["c", "h"]))
        self.assertEqual(told.lines(), [("l", 1, [])])

    def test_no_backing_change_or_none_that_can_be(self):
        told = board(("l", 3), ("m", 5))
        for bad in NO_NAMES + ("zz", "a", "b", "h", "x", "l", [], {}):
            with self.subTest(bad):
                self.assertRaises(BadChange, told.back, "m", bad)
        self.assertRaises(BadChange, told.back, "l", "f")
        self.assertRaises(BadChange, told.back, "l", "g")
        told.back("m", "f")
        self.assertRaises(BadChange, told.back, "m", "f")
        self.assertEqual(told.lines(), [("l", 3, []), ("m", 5, ["f"])])

    def test_back_what_is_leant_on(self):
        told = Board([plain("a"), plain("b", ["a"]), backing("c", "b"), backing("d", "a"), plain("e")])
        told.cut("l", 2)
        self.assertRaises(BadChange, told.back, "l", "d")
        told.back("l", "c")
        told.back("l", "d")
        self.assertEqual(told.has("l"), [])
        self.assertEqual(told.pick("l", "b"), ["a", "b"])
        self.assertRaises(BadChange, told.back, "l", "d")
        self.assertEqual(told.lines(), [("l", 2, ["c", "d", "a", "b"])])

    def test_a_backing_change_leans_too(self):
        told = Board([plain("a"), plain("b"), backing("c", "b", ["a"])])
        told.cut("l", 0)
        told.pick("l", "b")
        self.assertRaises(BadChange, told.back, "l", "c")
        told.pick("l", "a")
        told.back("l", "c")
        self.assertEqual(told.has("l"), ["a"])

    def test_more_than_forty_picks(self):
        told = board(("l", 1))
        for turn in range(19):
            told.pick("l", "e")
            told.back("l", "f")
        self.assertRaises(BadNumber, told.pick, "l", "d")
        self.assertRaises(Barring, told.pick, "l", "d", ["d"])
        told.pick("l", "c")
        told.pick("l", "e")
        due = told.lines()
        self.assertEqual(len(due[0][2]), 40)
        self.assertEqual(told.pick("l", "a"), [])
        self.assertRaises(BadNumber, told.back, "l", "f")
        self.assertRaises(BadChange, told.back, "l", "g")
        self.assertRaises(BadNumber, told.pick, "l", "b")
        self.assertRaises(BadChange, told.pick, "l", "f")
        self.assertRaises(BadNames, told.pick, "l", "b", "a")
        self.assertEqual(told.lines(), due)
        told.undo()
        told.undo()
        self.assertEqual(told.lines(), [("l", 1, due[0][2][:39])])
        told.pick("l", "b")
        self.assertEqual(len(told.lines()[0][2]), 40)

    def test_a_lot_up_to_forty_picks(self):
        told = board(("l", 1))
        for turn in range(18):
            told.pick("l", "e")
            told.back("l", "f")
        told.pick("l", "e")
        self.assertEqual(told.pick("l", "d"), ["b", "c", "d"])
        self.assertEqual(len(told.lines()[0][2]), 40)


class Slow:
    """A board by the document's words: after each deed, all lines as they were are kept."""

    def __init__(self, trunk):
        self.trunk = trunk
        self.states = [[]]

    def find(self, name):
        found = [line for line in self.states[-1] if line[0] == name]
        return found[0] if found else None

    def deed(self, told):
        """What a deed is to tell: a refusal's class or what is told."""
        return getattr(self, told[0])(*told[1:])

    def cut(self, name, many):
        if self.find(name) or not 0 <= many <= len(self.trunk):
            return BadLine
        self.states.append(self.states[-1] + [(name, many, [])])
        return None

    def longer(self, line, names):
        if len(line[2] + names) > 40:
            return False
        self.states.append([one if one != line else (one[0], one[1], one[2] + names) for one in self.states[-1]])
        return True

    def pick(self, name, change, barred=None):
        line = self.find(name)
        if line is None:
            return BadLine
        if made.by_name(self.trunk, change) is None or made.by_name(self.trunk, change)[2]:
            return BadChange
        held = made.had(self.trunk, line)
        comes = made.comes_with(self.trunk, [change])
        lot = [word[0] for word in self.trunk if word[0] in comes and word[0] not in held]
        if any(word in (barred or []) for word in lot):
            return Barring
        return lot if self.longer(line, lot) else BadNumber

    def back(self, name, change):
        line = self.find(name)
        if line is None:
            return BadLine
        told = made.by_name(self.trunk, change)
        if told is None or told[2] is None or not made.stands(self.trunk, made.row_of(self.trunk, line) + [change]):
            return BadChange
        return None if self.longer(line, [change]) else BadNumber

    def undo(self):
        if len(self.states) == 1:
            return NoDeed
        self.states.pop()
        return None


class Drawn(unittest.TestCase):
    """Many deeds at two boards beside each other."""

    def drawn(self, rng, slow, names):
        way = rng.choice(("cut", "pick", "pick", "pick", "pick", "back", "back", "back", "undo"))
        if way == "undo":
            return (way,)
        name = rng.choice(("l", "m", "n", "none"))
        if way != "cut" and slow.states[-1] and rng.random() < 0.9:
            name = rng.choice(slow.states[-1])[0]
        if way == "cut":
            return (way, name, rng.randint(-1, len(names) + 1) if rng.random() < 0.2 else rng.randint(0, len(names)))
        line = slow.find(name)
        change = rng.choice(names)
        if way == "back":
            row = made.row_of(slow.trunk, line) if line else []
            free = [word[0] for word in slow.trunk if word[2] and line and made.follows(slow.trunk, row, word[0])]
            return (way, name, rng.choice(free) if free and rng.random() < 0.8 else change)
        barred = made.made_barred(rng, slow.trunk, line or ("l", 0, []))
        return rng.choice(((way, name, change), (way, name, change, barred)))

    def do(self, told, slow, deed):
        kept = copy.deepcopy(deed)
        before = told.lines()
        due = slow.deed(copy.deepcopy(deed))
        ask = getattr(told, deed[0])
        if isinstance(due, type):
            with self.assertRaises(due) as caught:
                ask(*deed[1:])
            self.assertIs(caught.exception.__class__, due)
            self.assertEqual(told.lines(), before)
            if due is Barring:
                chain = caught.exception.chain
                self.assertTrue(made.is_chain(slow.trunk, slow.find(deed[1]), deed[2], chain, deed[3]))
                chain.clear()
        else:
            answer = ask(*deed[1:])
            self.assertEqual(answer, due)
            if answer is not None:
                answer.append("zz")
        self.assertEqual(deed, kept)
        return due

    def asked(self, told, slow):
        self.assertEqual(told.lines(), slow.states[-1])
        for name, many, picks in told.lines():
            picks.append("zz")
            self.assertEqual(told.has(name), made.had(slow.trunk, slow.find(name)))
            told.has(name).clear()
        told.lines().clear()
        self.assertEqual(told.lines(), slow.states[-1])

    def test_as_the_document_words_it(self):
        refused = {BadLine: 0, BadChange: 0, Barring: 0, NoDeed: 0}
        for seed in range(60):
            rng = random.Random(seed)
            trunk = made.made_trunk(rng, rng.choice((1, 4, 6, 10, 24)), made.FAULTS)
            names = [change[0] for change in trunk] + ["nowhere"]
            handed = copy.deepcopy(trunk)
            pairs = [(Board(handed), Slow(trunk)), (Board(handed), Slow(trunk))]
            for turn in range(60):
                at = rng.randint(0, 1)
                due = self.do(*pairs[at], self.drawn(rng, pairs[at][1], names))
                if isinstance(due, type):
                    refused[due] += 1
                for told, slow in pairs:
                    self.asked(told, slow)
            self.assertEqual(handed, trunk)
        self.assertGreater(min(refused.values()), 20, refused)

    def test_all_is_taken_back(self):
        for seed in range(20):
            rng = random.Random(seed)
            trunk = made.made_trunk(rng, 8, made.FAULTS)
            told, slow = Board(trunk), Slow(trunk)
            for turn in range(30):
                self.do(told, slow, self.drawn(rng, slow, [change[0] for change in trunk]))
            while len(slow.states) > 1:
                self.do(told, slow, ("undo",))
                self.asked(told, slow)
            self.assertRaises(NoDeed, told.undo)


class AskersOwn(unittest.TestCase):
    """Point 1."""

    def test_the_trunk_is_not_kept(self):
        trunk = copy.deepcopy(TRUNK)
        told = Board(trunk)
        told.cut("l", 1)
        trunk[3][1].clear()
        trunk[1] = plain("b")
        trunk.pop()
        self.assertEqual(told.pick("l", "d"), ["b", "c", "d"])
        self.assertEqual(told.pick("l", "h"), ["h"])
        told.cut("m", 8)

    def test_barred_names_are_not_kept(self):
        told = board(("l", 1))
        barred = ["c"]
        self.assertRaises(Barring, told.pick, "l", "d", barred)
        self.assertEqual(barred, ["c"])
        barred.clear()
        self.assertEqual(told.pick("l", "d", barred), ["b", "c", "d"])

    def test_what_is_told_is_the_askers_own(self):
        told = board(("l", 1), ("m", 0))
        lot = told.pick("l", "d")
        lot.clear()
        self.assertEqual(told.lines(), [("l", 1, ["b", "c", "d"]), ("m", 0, [])])
        told.lines()[1][2].append("b")
        told.lines().pop()
        told.has("l").append("zz")
        self.assertEqual(told.lines(), [("l", 1, ["b", "c", "d"]), ("m", 0, [])])
        self.assertEqual(told.has("l"), ["a", "b", "c", "d"])
        told.back("l", "g")
        told.lines()[0][2].clear()
        told.undo()
        self.assertEqual(told.lines(), [("l", 1, ["b", "c", "d"]), ("m", 0, [])])

    def test_what_was_told_stays(self):
        told = board(("l", 1))
        lines = told.lines()
        names = told.has("l")
        lot = told.pick("l", "b")
        told.pick("l", "d")
        told.undo()
        self.assertEqual((lines, names, lot), ([("l", 1, [])], ["a"], ["b"]))

    def test_boards_do_not_touch_one_another(self):
        one, other = board(("l", 1)), board(("l", 2))
        one.pick("l", "d")
        one.cut("m", 0)
        self.assertEqual(other.lines(), [("l", 2, [])])
        other.undo()
        self.assertRaises(NoDeed, other.undo)
        self.assertEqual(one.lines(), [("l", 1, ["b", "c", "d"]), ("m", 0, [])])


if __name__ == "__main__":
    unittest.main()

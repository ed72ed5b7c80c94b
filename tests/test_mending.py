"""mend: the fewest names that mend a line, with a tree that shows it; and what a bent tree shows."""

import copy
import unittest

from pickline.answers import Bar, Either, Full, Mended, Unmended
from pickline.errors import BadLine, BadNames, BadTrunk
from pickline.picking import mend
from tests import made
from tests.made import backing, plain
from tests.test_answers import spoiled
from tests.test_trunks import NO_LISTS, NO_NAMES

# a <- b <- d <- f, c <- d, b <- e; h backs g. b brings x, c brings y, g brings v.
TRUNK = [plain("a"), plain("b", ["a"], ["x"]), plain("c", [], ["y"]), plain("d", ["b", "c"], [], ["x"]),
         plain("e", ["b"], [], ["x"]), plain("f", ["d"], [], ["y"]), plain("g", [], ["v"]),
         backing("h", "g")]
LINE = ("l", 2, [])


def closes(tree, trunk, line, faults, barred, many, chosen=()):
    """Point 9, straight from its words."""
    held = made.had(trunk, line)
    comes = [name for name in made.comes_with(trunk, list(chosen)) if name not in held]
    if isinstance(tree, Full):
        return many is not None and len(set(comes)) >= many
    if isinstance(tree, Bar):
        return any(made.is_chain(trunk, line, name, tree.chain, barred) for name in chosen)
    if not isinstance(tree, Either):
        return False
    menders = [change[0] for change in trunk if tree.fault in change[4]]
    return (tree.fault in faults and made.has_fault(trunk, held + comes, tree.fault)
            and [name for name, below in tree.pairs] == menders
            and all(closes(below, trunk, line, faults, barred, many, list(chosen) + [name])
                    for name, below in tree.pairs))


def bent(tree, others):
    """Trees that are like this one but for one place; others are texts to put there."""
    yield from (Full(), Bar([]), Bar([others[0]]), None)
    if isinstance(tree, Bar):
        for other in others:
            yield from (Bar(chain) for chain in spoiled(tree.chain, other))
        yield Bar(tree.chain[::-1])
    if not isinstance(tree, Either):
        yield Either(others[0], [])
        return
    pairs = tree.pairs
    for other in others:
        yield Either(other, pairs)
    for some in spoiled(pairs, (others[-1], Full())):
        yield Either(tree.fault, some)
    yield Either(tree.fault, pairs[::-1])
    for at, (name, below) in enumerate(pairs):
        for other in others:
            yield Either(tree.fault, pairs[:at] + [(other, below)] + pairs[at + 1:])
        for some in bent(below, others):
            yield Either(tree.fault, pairs[:at] + [(name, some)] + pairs[at + 1:])


def questions(seeds, sizes, most, faults=("x", "mends", "a")):
    """Trunks, lines, faults and barred names to be asked with, of each second one many faults to mend."""
    for seed, (rng, trunk, line) in enumerate(made.made(seeds, sizes, most, faults)):
        asked = rng.sample(faults, rng.randint(0, len(faults))) + rng.choice(([], [], ["nobody"]))
        if seed % 2:
            trunk = [faulty(rng, change, faults) for change in trunk]
            line = made.made_line(rng, trunk[:1 + len(trunk) // 3], "l", 2)
            asked = rng.sample(faults, len(faults))
        yield trunk, line, asked, made.made_barred(rng, trunk, line)


def faulty(rng, change, faults):
    """This change, if it is plain, with one fault mended as a rule, and others brought."""
    if change[2] is not None:
        return change
    mends = rng.sample(faults, rng.choice((0, 1, 1, 1, 2)))
    brings = [fault for fault in faults if fault not in mends and rng.random() < 0.4]
    return plain(change[0], change[1][:rng.randint(0, 2)], brings, mends)


class Mends(unittest.TestCase):
    """Point 8."""

    def mended(self, due, *asked):
        told = mend(*asked)
        self.assertIsInstance(told, Mended)
        self.assertEqual(told.names, due)
        self.shown(told, *asked)

    def unmended(self, *asked):
        told = mend(*asked)
        self.assertIsInstance(told, Unmended)
        self.shown(told, *asked)

    def shown(self, told, trunk, line, faults, barred=None):
        barred = [] if barred is None else barred
        self.assertIs(told.shows(trunk, line, faults, barred), True)
        many = len(told.names) if isinstance(told, Mended) else None
        self.assertTrue(closes(told.tree, trunk, line, faults, barred, many))

    def test_none_are_needed(self):
        self.mended([], TRUNK, LINE, [])
        self.mended([], TRUNK, LINE, ["y"])
        self.mended([], TRUNK, LINE, ["y", "v", "nobody"], ["a", "b"])
        self.mended([], TRUNK, ("l", 0, []), ["x", "y", "v"])
        self.mended([], TRUNK, ("l", 8, []), ["x", "y", "v"])

    def test_the_fewest(self):
        self.mended(["e"], TRUNK, LINE, ["x"])
        self.mended(["c", "d"], TRUNK, LINE, ["x"], ["e"])
        self.mended(["e"], TRUNK, LINE, ["x", "y"])
        self.mended(["c", "d", "f"], TRUNK, LINE, ["y", "x"], ["e"])
        self.mended(["d", "f"], TRUNK, ("l", 3, []), ["y"])
        self.mended(["a", "b", "d", "f"], TRUNK, ("l", 0, ["c"]), ["y"])

    def test_barred_and_none(self):
        self.mended(["e"], TRUNK, LINE, ["x"], None)
        self.mended(["e"], TRUNK, LINE, ["x"], [])
        self.mended(["e"], TRUNK, LINE, ["x"], ["a", "b", "zz", "h", "e" * 8, "c", "c"])
        self.assertEqual(mend(TRUNK, LINE, ["x"], barred=["e"]).names, ["c", "d"])

    def test_there_are_none(self):
        self.unmended(TRUNK, LINE, ["x"], ["e", "c"])
        self.unmended(TRUNK, LINE, ["x"], ["e", "d"])
        self.unmended(TRUNK, LINE, ["y", "x"], ["e", "f"])
        self.unmended(TRUNK, ("l", 7, []), ["v"])
        self.unmended(TRUNK, ("l", 7, []), ["x", "y", "v", "zz"], ["a"])

    def test_a_fault_that_nobody_mends(self):
        self.assertEqual(mend(TRUNK, ("l", 7, []), ["v"]), Unmended(Either("v", [])))

    def test_a_fault_that_nobody_brings(self):
        self.mended([], TRUNK + [plain("m", [], [], ["w"])], ("l", 9, []), ["w"])
        self.mended([], TRUNK + [plain("m", [], [], ["w"])], ("l", 8, []), ["w"], ["m"])

    def test_no_backing_change_mends(self):
        self.unmended([plain("a", [], ["x"]), backing("b", "a")], ("l", 1, []), ["x"])
        self.mended([], [plain("a", [], ["x"]), backing("b", "a")], ("l", 2, []), ["x"])

    def test_what_was_backed_is_picked_again(self):
        trunk = [plain("a", [], ["x"]), plain("b", [], [], ["x"]), backing("c", "b")]
        self.mended(["b"], trunk, ("l", 3, []), ["x"])
        self.mended([], trunk, ("l", 3, ["b"]), ["x"])
        self.mended(["b"], trunk, ("l", 3, ["b", "c"]), ["x"])
        self.unmended(trunk, ("l", 3, ["b", "c"]), ["x"], ["b"])

    def test_four_faults(self):
        trunk = [plain("a", [], ["p", "q", "r", "s"]), plain("b", [], [], ["p", "q"]),
                 plain("c", [], [], ["q", "r"]), plain("d", [], [], ["r", "s"]), plain("e", [], [], ["p"]),
                 plain("f", ["e"], [], ["q", "r", "s"])]
        line = ("l", 1, [])
        told = mend(trunk, line, ["p", "q", "r", "s"])
        self.assertIn(told.names, (["b", "d"], ["e", "f"]))
        self.shown(told, trunk, line, ["p", "q", "r", "s"])
        self.mended(["e", "f"], trunk, line, ["s", "r", "q", "p"], ["d"])
        self.mended(["b", "d"], trunk, line, ["s", "r", "q", "p"], ["e"])
        self.unmended(trunk, line, ["s", "r", "q", "p"], ["d", "f"])

    def test_a_fault_that_comes_with_what_mends_another(self):
        trunk = [plain("a", [], ["x"]), plain("b", [], ["y"]), plain("c", ["b"], [], ["x"]),
                 plain("d", [], [], ["y"]), plain("e"), plain("f", ["e"]), plain("g", ["f"], [], ["x"])]
        line = ("l", 1, [])
        self.mended(["b", "c"], trunk, line, ["x"])
        told = mend(trunk, line, ["x", "y"])
        self.assertIn(told.names, (["b", "c", "d"], ["e", "f", "g"]))
        self.mended(["e", "f", "g"], trunk, line, ["y", "x"], ["d"])
        self.mended(["b", "c", "d"], trunk, line, ["y", "x"], ["f"])
        self.unmended(trunk, line, ["x", "y"], ["f", "d"])

    def test_a_ring_of_faults(self):
        trunk = [plain("a", [], ["p"]), plain("b", [], ["q"], ["p"]), plain("c", [], ["r"], ["q"]),
                 plain("d", [], ["s"], ["r"]), plain("e", [], ["p"], ["s"])]
        self.mended(["b", "c", "d", "e"], trunk, ("l", 1, []), ["p", "q", "r", "s"])
        self.mended(["b", "c", "d"], trunk, ("l", 1, []), ["q", "r", "p"])
        self.mended(["b"], trunk, ("l", 1, []), ["p", "r", "s"])
        self.mended(["b", "c"], trunk, ("l", 0, ["e"]), ["p", "q", "s"])
        self.unmended(trunk, ("l", 1, []), ["p", "q", "r", "s"], ["e"])

    def test_two_that_mend_one_of_which_needs_more(self):
        trunk = [plain("a", [], ["x"]), plain("b"), plain("c", ["b"], [], ["x"]), plain("d", [], [], ["x"])]
        self.mended(["d"], trunk, ("l", 1, []), ["x"])
        self.mended(["b", "c"], trunk, ("l", 1, []), ["x"], ["d"])
        self.unmended(trunk, ("l", 1, []), ["x"], ["b", "d"])
        told = mend(trunk, ("l", 2, []), ["x"])
        self.assertIn(told.names, (["c"], ["d"]))

    def test_a_line_of_forty_picks(self):
        self.mended(["e"], TRUNK, ("l", 2, ["g", "h"] * 20), ["x", "v"])

    def test_a_large_tree(self):
        faults = ["p", "q", "r", "s"]
        trunk = [plain("a", [], ["p"])]
        for at in range(23):
            rest = [fault for fault in faults if fault != faults[at % 4]]
            trunk.append(plain("m" + chr(97 + at), [], rest, [faults[at % 4]]))
        told = mend(trunk, ("l", 1, []), faults)
        self.assertEqual(len(told.names), 4)
        self.assertIs(told.shows(trunk, ("l", 1, []), faults, []), True)
        barred = ["m" + chr(97 + at) for at in range(3, 23, 4)]
        self.unmended(trunk, ("l", 1, []), faults, barred)

    def test_no_list_of_faults(self):
        five = ["p", "q", "r", "s", "t"]
        for bad in NO_LISTS + tuple([name] for name in NO_NAMES) + (["x", "x"], ["x", "y", "x"], five, ["x"] * 9):
            with self.subTest(bad):
                self.assertRaises(BadNames, mend, TRUNK, LINE, bad)
                self.assertRaises(BadNames, mend, TRUNK, LINE, bad, [])
        self.mended(["e"], TRUNK, LINE, ["x", "abcdefgh", "s", "t"])

    def test_barred_is_no_list_of_names(self):
        for bad in NO_LISTS[1:] + tuple([name] for name in NO_NAMES) + (["a", None],):
            with self.subTest(bad):
                self.assertRaises(BadNames, mend, TRUNK, LINE, ["x"], bad)
                self.assertRaises(BadNames, mend, TRUNK, LINE, [], bad)

    def test_which_refusal_goes_first(self):
        self.assertRaises(BadTrunk, mend, TRUNK + [None], None, None, 0)
        self.assertRaises(BadLine, mend, TRUNK, ("l", 2, ["b"]), None, 0)

    def test_as_the_document_words_it(self):
        mended = unmended = 0
        for trunk, line, faults, barred in questions(400, (2, 4, 6, 7, 8), 4):
            told = mend(trunk, line, faults, barred)
            due = made.least_mend(trunk, line, faults, barred)
            self.shown(told, trunk, line, faults, barred)
            if due is None:
                unmended += 1
                self.assertIsInstance(told, Unmended)
            else:
                mended += bool(due)
                self.assertIsInstance(told, Mended)
                self.assertEqual(len(told.names), len(due))
                self.assertTrue(made.is_mend(trunk, line, told.names, faults, barred))
        self.assertGreater(min(mended, unmended), 30, (mended, unmended))

    def test_larger_trunks(self):
        mended = unmended = 0
        for trunk, line, faults, barred in questions(240, tuple(range(9, 25)), 16, ("x", "mends", "a", "y")):
            told = mend(trunk, line, faults[:4], barred)
            self.shown(told, trunk, line, faults[:4], barred)
            if isinstance(told, Mended):
                mended += len(told.names) > 0
                self.assertTrue(made.is_mend(trunk, line, told.names, faults[:4], barred))
            else:
                unmended += 1
        self.assertGreater(min(mended, unmended), 20, (mended, unmended))


class Bent(unittest.TestCase):
    """Points 8 and 9: what a told answer shows when it is asked otherwise or isn't as it was told."""

    def test_asked_about_other_faults(self):
        for trunk, line, faults, barred in questions(90, (4, 6, 8), 4):
            told = mend(trunk, line, faults, barred)
            for other in ([], ["x"], ["mends"], ["a", "x"], faults[::-1], faults + ["nowhere"]):
                many = None
                good = True
                if isinstance(told, Mended):
                    many = len(told.names)
                    good = made.is_mend(trunk, line, told.names, other, barred)
                good = good and closes(told.tree, trunk, line, other, barred, many)
                self.assertIs(told.shows(trunk, line, other, barred), good)

    def test_names_spoiled(self):
        for trunk, line, faults, barred in questions(120, (4, 6, 8), 4):
            told = mend(trunk, line, faults, barred)
            if isinstance(told, Mended):
                due = list(told.names)
                for names in spoiled(due, trunk[-1][0]) + spoiled(due, "nowhere") + [due[::-1], [], due]:
                    told.names = names
                    good = (all(made.by_name(trunk, name) for name in names)
                            and made.is_mend(trunk, line, names, faults, barred)
                            and closes(told.tree, trunk, line, faults, barred, len(names)))
                    self.assertIs(told.shows(trunk, line, faults, barred), good)

    def test_trees_bent_at_any_place(self):
        closed = unclosed = 0
        for trunk, line, faults, barred in questions(120, (4, 6, 9, 12), 4):
            told = mend(trunk, line, faults, barred)
            many = len(told.names) if isinstance(told, Mended) else None
            for tree in bent(told.tree, [trunk[0][0], "x", "nowhere"]):
                told.tree = tree
                good = closes(tree, trunk, line, faults, barred, many)
                closed += good
                unclosed += not good
                self.assertIs(told.shows(trunk, line, faults, barred), good)
                if tree is not None:
                    self.assertIs(tree.closes(trunk, line, faults, barred, many), good)
                    self.left_out(tree, trunk, line, faults, barred)
        self.assertGreater(min(closed, unclosed), 100, (closed, unclosed))

    def left_out(self, tree, trunk, line, faults, barred):
        """The same with chosen, with many and with both left out."""
        self.assertIs(tree.closes(trunk, line, faults, barred),
                      closes(tree, trunk, line, faults, barred, None))
        chosen = [change[0] for change in trunk if change[2] is None][-2:]
        self.assertIs(tree.closes(trunk, line, faults, barred, chosen=chosen),
                      closes(tree, trunk, line, faults, barred, None, chosen))
        self.assertIs(tree.closes(trunk, line, faults, barred, 2, chosen),
                      closes(tree, trunk, line, faults, barred, 2, chosen))

    def test_no_tree(self):
        for none in (None, [], "x", Mended([], Full()), ("x", [])):
            mended, unmended = Mended([], Full()), Unmended(Either("v", []))
            mended.tree = unmended.tree = none
            self.assertIs(mended.shows(TRUNK, LINE, [], []), False)
            self.assertIs(unmended.shows(TRUNK, ("l", 7, []), ["v"], []), False)
            self.assertIs(Either("x", [("d", none), ("e", Full())]).closes(TRUNK, LINE, ["x"], [], 0), False)


class AskersOwn(unittest.TestCase):
    """Point 1."""

    def test_what_was_handed_in_stays(self):
        for trunk, line, faults, barred in questions(60, tuple(range(1, 25)), 16):
            kept = copy.deepcopy((trunk, line, faults, barred))
            told = mend(trunk, line, faults, barred)
            again = mend(trunk, line, faults, barred)
            self.assertEqual(told, again)
            self.spoil(told)
            self.assertEqual(mend(trunk, line, faults, barred), again)
            self.assertEqual((trunk, line, faults, barred), kept)

    def spoil(self, told):
        if isinstance(told, Mended):
            told.names.append("zz")
        trees = [told.tree]
        for tree in trees:
            if isinstance(tree, Either):
                trees += [below for name, below in tree.pairs]
                tree.pairs.clear()
            if isinstance(tree, Bar):
                tree.chain.append("zz")

    def test_two_chains_told_at_once_are_two_lists(self):
        trunk = [plain("a", [], ["x", "y"]), plain("b"), plain("c", ["b"], [], ["x", "y"]),
                 plain("d", [], ["y"], ["x"])]
        told = mend(trunk, ("l", 1, []), ["x", "y"], ["b"])
        self.assertEqual(told, Unmended(Either("x", [("c", Bar(["c", "b"])),
                                                     ("d", Either("y", [("c", Bar(["c", "b"]))]))])))
        told.tree.pairs[0][1].chain.clear()
        self.assertEqual(told.tree.pairs[1][1], Either("y", [("c", Bar(["c", "b"]))]))


if __name__ == "__main__":
    unittest.main()

"""Answers: their fields, what shows and what closes."""

import copy
import unittest

from pickline.answers import Answer, Bar, Barred, Either, Full, Lot, Mended, Unmended
from tests import made
from tests.made import backing, plain

# a <- b <- d <- f, c <- d, b <- e; h backs g. b brings x; d, e, f and c mend: see each.
TRUNK = [plain("a"), plain("b", ["a"], ["x"]), plain("c", [], ["y"]), plain("d", ["b", "c"], [], ["x"]),
         plain("e", ["b"], [], ["x"]), plain("f", ["d"], [], ["y"]), plain("g", [], [], ["v"]),
         backing("h", "g")]
LINE = ("l", 2, [])

# The line has a and b, so x: mended by d (with c, so y then, mended by f) or by e.
BOTH = Either("x", [("d", Either("y", [("f", Full())])), ("e", Full())])
ONE = Either("x", [("d", Full()), ("e", Full())])
SHUT = Either("x", [("d", Bar(["d", "c"])), ("e", Bar(["e"]))])


def least_tree(trunk, line, faults, barred, many, chosen=()):
    """A tree that closes, found by trying; None where there is none."""
    held = made.had(trunk, line) + made.comes_with(trunk, chosen)
    for name in chosen:
        chain = made.chain_to(trunk, line, name, barred)
        if chain is not None:
            return Bar(chain)
    if many is not None and len(set(held) - set(made.had(trunk, line))) >= many:
        return Full()
    for fault in faults:
        if made.has_fault(trunk, held, fault):
            menders = [change[0] for change in trunk if fault in change[4]]
            trees = [least_tree(trunk, line, faults, barred, many, list(chosen) + [name]) for name in menders]
            if None not in trees:
                return Either(fault, list(zip(menders, trees)))
    return None


def spoiled(names, other):
    """Lists unlike this one: a name left out, put in, told twice, exchanged."""
    lists = []
    for at in range(len(names)):
        lists.append(names[:at] + names[at + 1:])
        lists.append(names[:at] + [names[at]] + names[at:])
        lists.append(names[:at] + [other] + names[at + 1:])
        lists.append(names[:at] + names[at:at + 2][::-1] + names[at + 2:])
    for at in range(len(names) + 1):
        lists.append(names[:at] + [other] + names[at:])
    return [some for some in lists if some != names]


class Truth(unittest.TestCase):

    def shown(self, answer, *asked):
        self.assertIs(answer.shows(TRUNK, *asked), True)

    def unshown(self, answer, *asked):
        self.assertIs(answer.shows(TRUNK, *asked), False)

    def closed(self, tree, *asked, **more):
        self.assertIs(tree.closes(TRUNK, *asked, **more), True)

    def unclosed(self, tree, *asked, **more):
        self.assertIs(tree.closes(TRUNK, *asked, **more), False)


class Fields(Truth):

    def test_all_are_answers(self):
        self.assertEqual(Lot(["a"]).names, ["a"])
        self.assertEqual(Barred(["a", "b"]).chain, ["a", "b"])
        self.assertEqual(Bar(["a", "b"]).chain, ["a", "b"])
        told = Either("x", [("a", Bar(["a"])), ("b", Full())])
        self.assertEqual(told.fault, "x")
        self.assertEqual([pair[0] for pair in told.pairs], ["a", "b"])
        self.assertEqual([len(pair) for pair in told.pairs], [2, 2])
        self.assertIsInstance(told.pairs, list)
        self.assertIsInstance(told.pairs[0], tuple)
        self.assertIsInstance(told.pairs[0][1], Bar)
        self.assertIsInstance(told.pairs[1][1], Full)
        mended = Mended(["a"], told)
        self.assertEqual(mended.names, ["a"])
        self.assertEqual(mended.tree.fault, "x")
        self.assertEqual(Unmended(told).tree.fault, "x")
        for answer in (Lot([]), Barred(["a"]), Bar(["a"]), told, Full(), mended, Unmended(told)):
            self.assertIsInstance(answer, Answer)

    def test_methods_stand_in_the_classes_themselves(self):
        for kind in (Lot, Barred, Mended, Unmended):
            self.assertIn("shows", vars(kind))
        for kind in (Either, Full, Bar):
            self.assertIn("closes", vars(kind))

    def test_they_hold_whatever_texts_are_told(self):
        odd = ["", "A b", "zz", "abcdefghijkl"]
        self.assertEqual(Lot(odd).names, odd)
        for name in odd:
            self.unshown(Lot([name]), LINE, "a", [])
            self.unshown(Lot(["c", name]), LINE, "c", [])
            self.unshown(Barred([name]), LINE, "c", [name])
            self.unshown(Barred(["c", name]), LINE, "c", [name])
            self.unshown(Mended([name], Full()), LINE, ["x"], [])
            self.unshown(Mended([name], Full()), LINE, [], [])
            self.unclosed(Either(name, []), LINE, ["x"], [])
            self.unclosed(Either("x", [(name, Full())]), LINE, ["x"], [], 0)
            self.unclosed(Bar(["c", name]), LINE, ["x"], [name], None, ["c"])
            self.unclosed(Bar([name]), LINE, ["x"], [name], None, [name])

    def test_lists_are_copies(self):
        names, chain, pairs = ["c", "d"], ["d", "c"], [("a", Full())]
        lot, barred, bar, either = Lot(names), Barred(chain), Bar(chain), Either("x", pairs)
        mended = Mended(names, either)
        names.append("e")
        chain.append("e")
        pairs.append(("b", Full()))
        self.assertEqual(lot.names, ["c", "d"])
        self.assertEqual(mended.names, ["c", "d"])
        self.assertEqual(barred.chain, ["d", "c"])
        self.assertEqual(bar.chain, ["d", "c"])
        self.assertEqual(either.pairs, [("a", Full())])
        lot.names.clear()
        barred.chain.clear()
        either.pairs.clear()
        self.assertEqual((names, chain, len(pairs)), (["c", "d", "e"], ["d", "c", "e"], 2))

    def test_lists_within_lists_are_copies(self):
        bar = Bar(["d", "c"])
        inner = Either("y", [("f", bar)])
        outer = Either("x", [("d", inner), ("e", Bar(["e"]))])
        mended, unmended = Mended([], outer), Unmended(outer)
        bar.chain.append("zz")
        inner.pairs.append(("g", Full()))
        inner.fault = "v"
        outer.pairs.pop()
        due = Either("y", [("f", Bar(["d", "c"]))])
        for answer in (mended, unmended):
            self.assertEqual(answer.tree, Either("x", [("d", due), ("e", Bar(["e"]))]))
        self.assertEqual(outer.pairs, [("d", due)])
        full = Full()
        self.assertIsNot(Either("x", [("d", full)]).pairs[0][1], full)
        self.assertIsNot(Mended([], full).tree, full)

    def test_equal_by_the_same_fields(self):
        alike = [lambda: Lot(["a"]), lambda: Lot(["b"]), lambda: Barred(["a"]), lambda: Barred([]), lambda: Bar(["a"]),
                 lambda: Bar([]), Full, lambda: Either("x", []), lambda: Either("y", []),
                 lambda: Either("x", [("a", Full())]), lambda: Either("x", [("a", Bar([]))]),
                 lambda: Mended([], Full()), lambda: Mended(["a"], Full()), lambda: Mended([], Bar([])),
                 lambda: Unmended(Full()), lambda: Unmended(Bar([])), lambda: ["a"]]
        for at, one in enumerate(alike):
            for where, other in enumerate(alike):
                self.assertEqual(one() == other(), at == where)


class Lots(Truth):
    """Point 5: Lot."""

    def test_a_lot_that_shows(self):
        self.shown(Lot(["c", "d"]), LINE, "d", [])
        self.shown(Lot(["c", "d", "f"]), LINE, "f", ["e", "zz"])
        self.shown(Lot(["c"]), LINE, "c", [])
        self.shown(Lot(["a", "b", "c", "d", "f"]), ("l", 0, []), "f", [])

    def test_a_change_that_the_line_has_needs_none(self):
        self.shown(Lot([]), LINE, "a", [])
        self.shown(Lot([]), LINE, "b", ["a", "b"])
        self.unshown(Lot(["b"]), LINE, "b", [])
        self.unshown(Lot(["c"]), LINE, "b", [])

    def test_a_change_that_was_backed_is_needed_again(self):
        self.shown(Lot(["g"]), ("l", 8, []), "g", [])
        self.unshown(Lot([]), ("l", 8, []), "g", [])
        self.shown(Lot([]), ("l", 8, ["g"]), "g", [])
        self.shown(Lot(["g"]), ("l", 8, ["g", "h"]), "g", [])

    def test_a_lot_spoiled(self):
        for other in ("a", "b", "c", "d", "e", "f", "g", "h", "zz"):
            for names in spoiled(["c", "d", "f"], other):
                self.unshown(Lot(names), LINE, "f", [])

    def test_another_question(self):
        lot = Lot(["c", "d"])
        for change in ("a", "b", "c", "e", "f", "g"):
            self.unshown(lot, LINE, change, [])
        self.unshown(lot, ("l", 0, []), "d", [])
        self.unshown(lot, ("l", 3, []), "d", [])
        self.unshown(lot, LINE, "d", ["d"])
        self.unshown(lot, LINE, "d", ["e", "c"])
        self.shown(lot, LINE, "d", ["a", "b"])

    def test_more_than_forty_picks_then(self):
        line = ("l", 8, ["g", "h"] * 20)
        self.shown(Lot(["g"]), line, "g", [])

    def test_the_fields_as_they_stand_then(self):
        names = ["c", "d"]
        lot = Lot(names)
        names.pop()
        self.shown(lot, LINE, "d", [])
        lot.names.pop()
        self.unshown(lot, LINE, "d", [])
        self.shown(lot, LINE, "c", [])
        lot.names = ["c", "d", "f"]
        self.shown(lot, LINE, "f", [])

    def test_no_plain_change_of_the_trunk(self):
        self.unshown(Lot([]), LINE, "zz", [])
        self.unshown(Lot(["g", "h"]), LINE, "h", [])
        self.unshown(Barred(["h"]), LINE, "h", ["h"])
        self.unshown(Barred(["zz"]), LINE, "zz", ["zz"])

    def test_as_the_document_words_it(self):
        for rng, trunk, line in made.made(60, sizes=(1, 3, 5, 7), most=6):
            names = [change[0] for change in trunk]
            barred = rng.sample(names, rng.choice((0, 0, 1, 2)) % len(names))
            for change in [word[0] for word in trunk if word[2] is None]:
                due = made.least_lot(trunk, line, change, barred)
                for lot in made.all_lots(trunk, names):
                    self.assertIs(Lot(lot).shows(trunk, line, change, barred), lot == due)
                chain = made.chain_to(trunk, line, change, barred)
                self.assertEqual(chain is None, due is not None)


class Chains(Truth):
    """Point 5: Barred."""

    def test_a_chain_that_shows(self):
        self.shown(Barred(["f", "d", "c"]), LINE, "f", ["c"])
        self.shown(Barred(["f", "d"]), LINE, "f", ["c", "d"])
        self.shown(Barred(["f", "d", "c"]), LINE, "f", ["c", "d", "f"])
        self.shown(Barred(["f"]), LINE, "f", ["f", "zz"])
        self.shown(Barred(["e", "b", "a"]), ("l", 0, []), "e", ["a"])
        self.shown(Barred(["g"]), ("l", 8, []), "g", ["g"])

    def test_a_chain_spoiled(self):
        for other in ("a", "b", "c", "d", "e", "f", "g", "h", "zz"):
            for chain in spoiled(["f", "d", "c"], other):
                self.unshown(Barred(chain), LINE, "f", ["c", "a", "g"])
        self.unshown(Barred([]), LINE, "f", ["c", "f"])
        self.unshown(Barred([]), LINE, "f", [])

    def test_another_question(self):
        chain = Barred(["f", "d", "c"])
        self.unshown(chain, LINE, "d", ["c"])
        self.unshown(chain, LINE, "c", ["c"])
        self.unshown(chain, LINE, "f", [])
        self.unshown(chain, LINE, "f", ["d", "f", "a"])
        self.unshown(chain, ("l", 3, []), "f", ["c"])
        self.unshown(chain, ("l", 0, ["c"]), "f", ["c"])

    def test_what_the_line_has_is_no_link(self):
        self.unshown(Barred(["e", "b"]), LINE, "e", ["b"])
        self.unshown(Barred(["e", "b", "a"]), LINE, "e", ["a"])
        self.unshown(Barred(["b"]), LINE, "b", ["b"])

    def test_the_fields_as_they_stand_then(self):
        links = ["f", "d", "c"]
        chain = Barred(links)
        links.append("zz")
        self.shown(chain, LINE, "f", ["c"])
        chain.chain.pop()
        self.unshown(chain, LINE, "f", ["c"])
        self.shown(chain, LINE, "f", ["d"])

    def test_what_shows_is_a_chain_and_never_both(self):
        for rng, trunk, line in made.made(120, most=8):
            names = [change[0] for change in trunk]
            barred = rng.sample(names, len(names) // 4)
            for change in [word[0] for word in trunk if word[2] is None]:
                chain = made.chain_to(trunk, line, change, barred)
                needed = made.comes_with(trunk, [change])
                held = made.had(trunk, line)
                lot = [name for name in names if name in needed and name not in held]
                self.assertIs(Lot(lot).shows(trunk, line, change, barred), chain is None)
                if chain is not None:
                    self.assertIs(Barred(chain).shows(trunk, line, change, barred), True)
                    self.assertIs(Barred(chain[:-1]).shows(trunk, line, change, barred), False)
                else:
                    self.assertIs(Barred([change]).shows(trunk, line, change, barred), False)


class Trees(Truth):
    """Point 9: Either, Full and Bar."""

    def test_an_either_that_closes(self):
        self.closed(ONE, LINE, ["x"], [], 1)
        self.closed(BOTH, LINE, ["x", "y"], [], 1)
        self.closed(SHUT, LINE, ["x"], ["c", "e"])
        self.closed(SHUT, LINE, ["y", "x"], ["c", "e"], 7)

    def test_a_fault_that_nothing_mends(self):
        trunk = TRUNK + [plain("i", [], ["w"])]
        self.assertIs(Either("w", []).closes(trunk, ("l", 9, []), ["w"], []), True)
        self.assertIs(Either("w", []).closes(trunk, ("l", 8, []), ["w"], []), False)
        self.assertIs(Either("w", []).closes(trunk, ("l", 9, []), ["x"], []), False)
        self.assertIs(Either("w", []).closes(trunk, ("l", 8, []), ["w"], [], None, ["i"]), True)

    def test_an_either_of_a_fault_that_was_not_asked(self):
        self.unclosed(ONE, LINE, [], [], 1)
        self.unclosed(ONE, LINE, ["y"], [], 1)
        self.unclosed(BOTH, LINE, ["x"], [], 3)
        self.unclosed(Either("y", [("f", Full())]), LINE, ["x"], [], 0, ["d"])

    def test_an_either_of_a_fault_that_is_not_had(self):
        self.unclosed(ONE, ("l", 1, []), ["x"], [], 0)
        self.unclosed(ONE, ("l", 4, []), ["x"], [], 0)
        self.unclosed(ONE, LINE, ["x"], [], 0, ["e"])
        self.unclosed(Either("y", [("f", Full())]), LINE, ["x", "y"], [], 0)
        self.unclosed(Either("v", [("g", Full())]), LINE, ["v"], [], 0)

    def test_a_fault_that_comes_with_what_is_chosen(self):
        tree = Either("y", [("f", Full())])
        self.closed(tree, LINE, ["y"], [], 3, ["d"])
        self.closed(tree, LINE, ["y"], [], 3, ["c"])
        self.unclosed(tree, LINE, ["y"], [], 3, ["f"])
        self.unclosed(tree, LINE, ["y"], [], 4, ["d"])
        self.closed(ONE, ("l", 0, []), ["x"], [], 3, ["b"])
        self.unclosed(ONE, ("l", 0, []), ["x"], [], 4, ["b"])

    def test_pairs_left_out_put_in_told_twice_exchanged(self):
        d, e, f = ("d", Full()), ("e", Full()), ("f", Full())
        self.closed(Either("x", [d, e]), LINE, ["x"], [], 1)
        for pairs in ([], [d], [e], [e, d], [d, d], [d, e, e], [d, d, e], [d, e, f], [d, f], [f, d, e]):
            self.unclosed(Either("x", pairs), LINE, ["x"], [], 1)

    def test_another_fault(self):
        self.unclosed(Either("y", ONE.pairs), LINE, ["x", "y"], [], 1)
        self.unclosed(Either("v", ONE.pairs), LINE, ["x", "v"], [], 1)

    def test_each_pairs_tree_must_close(self):
        self.unclosed(ONE, LINE, ["x"], [], 2)
        self.unclosed(BOTH, LINE, ["x", "y"], [], 2)
        deep = Either("x", [("d", Either("y", [("f", Full())])), ("e", Bar(["e"]))])
        self.closed(deep, LINE, ["x", "y"], ["e"], 3)
        self.unclosed(deep, LINE, ["x", "y"], ["e"], 4)
        self.unclosed(deep, LINE, ["x", "y"], [], 3)
        self.unclosed(deep, LINE, ["x", "y"], ["e"])

    def test_a_mender_that_is_barred_is_paired_too(self):
        self.unclosed(Either("x", [("d", Full())]), LINE, ["x"], ["e"], 2)
        self.closed(Either("x", [("d", Full()), ("e", Bar(["e"]))]), LINE, ["x"], ["e"], 2)

    def test_a_full(self):
        self.closed(Full(), LINE, ["x"], [], 0)
        self.unclosed(Full(), LINE, ["x"], [], 1)
        self.closed(Full(), LINE, ["x"], [], 0, [])
        for chosen, many in ((["c"], 1), (["d"], 2), (["f"], 3), (["c", "d", "f"], 3), (["e", "f"], 4),
                             (["e", "e"], 1), (["a"], 0), (["a", "b", "c"], 1), (["g", "e"], 2)):
            self.closed(Full(), LINE, ["x"], [], many, chosen)
            self.closed(Full(), LINE, [], [], many - 1, chosen)
            self.unclosed(Full(), LINE, ["x"], [], many + 1, chosen)
            self.unclosed(Full(), LINE, ["x"], [], None, chosen)
        self.closed(Full(), ("l", 0, []), ["x"], [], 5, ["f"])
        self.closed(Full(), ("l", 8, []), ["x"], [], 1, ["g"])
        self.unclosed(Full(), ("l", 8, ["g"]), ["x"], [], 1, ["g"])

    def test_a_full_never_closes_where_none_are_told(self):
        self.unclosed(Full(), LINE, [], [])
        self.unclosed(Full(), LINE, ["x"], [], chosen=["f"])
        self.unclosed(ONE, LINE, ["x"], [])

    def test_a_bar(self):
        self.closed(Bar(["c"]), LINE, ["x"], ["c"], None, ["c"])
        self.closed(Bar(["d", "c"]), LINE, ["x"], ["c"], None, ["d"])
        self.closed(Bar(["d", "c"]), LINE, [], ["zz", "c"], 0, ["e", "d"])
        self.closed(Bar(["f", "d", "c"]), LINE, ["x"], ["c", "d"], chosen=["f"])
        self.unclosed(Bar(["d", "c"]), LINE, ["x"], ["c"])
        self.unclosed(Bar(["d", "c"]), LINE, ["x"], ["c"], None, [])
        self.unclosed(Bar(["d", "c"]), LINE, ["x"], ["c"], None, ["e"])
        self.unclosed(Bar(["d", "c"]), LINE, ["x"], ["d"], None, ["d"])
        self.unclosed(Bar(["d", "c"]), LINE, ["x"], [], None, ["d"])
        self.unclosed(Bar([]), LINE, ["x"], ["d"], None, ["d"])
        for other in ("a", "b", "c", "d", "e", "f", "g", "zz"):
            for chain in spoiled(["f", "d", "c"], other):
                self.unclosed(Bar(chain), LINE, ["x"], ["c", "a"], None, ["f"])

    def test_a_bars_chain_begins_with_one_chosen_itself(self):
        self.unclosed(Bar(["d", "c"]), LINE, ["x"], ["c"], None, ["f"])
        self.unclosed(Bar(["c"]), LINE, ["x"], ["c"], None, ["d"])

    def test_a_bar_over_what_the_line_has(self):
        self.unclosed(Bar(["e", "b"]), LINE, ["x"], ["b"], None, ["e"])
        self.unclosed(Bar(["b"]), LINE, ["x"], ["b"], None, ["b"])
        self.closed(Bar(["e", "b"]), ("l", 0, []), ["x"], ["b"], None, ["e"])

    def test_what_was_chosen_above_counts_below(self):
        trunk = [plain("a", [], ["x", "y"]), plain("b", [], ["v"], ["x"]), plain("c", [], [], ["y"]),
                 plain("d", [], [], ["v"])]
        line, faults = ("l", 1, []), ["x", "y", "v"]
        tree = Either("x", [("b", Either("y", [("c", Full())]))])
        self.assertIs(tree.closes(trunk, line, faults, [], 2), True)
        self.assertIs(tree.closes(trunk, line, faults, [], 3), False)
        self.assertIs(tree.closes(trunk, line, faults, [], 3, ["d"]), True)
        self.assertIs(tree.closes(trunk, line, faults, [], 4, ["d"]), False)
        deep = Either("x", [("b", Either("y", [("c", Either("v", [("d", Full())]))]))])
        self.assertIs(deep.closes(trunk, line, faults, [], 3), True)
        self.assertIs(deep.closes(trunk, line, faults, [], 4), False)
        self.assertIs(Mended(["b", "c", "d"], deep).shows(trunk, line, faults, []), True)
        late = Either("x", [("b", Either("y", [("c", Bar(["b"]))]))])
        self.assertIs(late.closes(trunk, line, faults, ["b"]), True)
        self.assertIs(late.closes(trunk, line, faults, ["c"]), False)
        again = Either("x", [("b", Either("y", [("c", Either("x", [("b", Full())]))]))])
        self.assertIs(again.closes(trunk, line, faults, [], 0), False)

    def test_the_fields_as_they_stand_then(self):
        pairs = [("d", Full()), ("e", Full())]
        tree = Either("x", pairs)
        pairs.pop()
        self.closed(tree, LINE, ["x"], [], 1)
        tree.pairs[1] = ("e", Bar(["e"]))
        self.unclosed(tree, LINE, ["x"], [], 1)
        self.closed(tree, LINE, ["x"], ["e"], 1)
        tree.pairs[1][1].chain.append("b")
        self.unclosed(tree, LINE, ["x"], ["e"], 1)
        tree.pairs[1][1].chain = ["e"]
        self.closed(tree, LINE, ["x"], ["e"], 1)
        tree.fault = "y"
        self.unclosed(tree, LINE, ["x", "y"], ["e"], 1)
        bar = Bar(["d", "c"])
        bar.chain.pop()
        self.unclosed(bar, LINE, ["x"], ["c"], None, ["d"])


class Mends(Truth):
    """Point 8: Mended and Unmended."""

    def test_a_mended_that_shows(self):
        self.shown(Mended(["e"], ONE), LINE, ["x"], [])
        self.shown(Mended(["e"], BOTH), LINE, ["x", "y"], [])
        self.shown(Mended(["c", "d"], Either("x", [("d", Full()), ("e", Bar(["e"]))])), LINE, ["x"], ["e"])

    def test_a_line_without_the_faults_needs_none(self):
        self.shown(Mended([], Full()), LINE, ["y"], [])
        self.shown(Mended([], Full()), LINE, [], ["a"])
        self.shown(Mended([], Full()), ("l", 0, []), ["x", "y", "v"], [])
        self.unshown(Mended([], Full()), LINE, ["x"], [])
        self.unshown(Mended([], ONE), LINE, ["x"], [])
        self.unshown(Mended(["g"], Full()), LINE, ["y"], [])

    def test_names_spoiled(self):
        tree = Either("x", [("d", Full()), ("e", Bar(["e"]))])
        for other in ("a", "b", "c", "d", "f", "g", "h", "zz"):
            for names in spoiled(["c", "d"], other):
                self.unshown(Mended(names, tree), LINE, ["x"], ["e"])
        for names in (["d"], ["c", "d", "e"], ["c", "e"], ["e", "e"], ["a", "e"], ["e", "g"]):
            self.unshown(Mended(names, ONE), LINE, ["x"], [])
            self.unshown(Mended(names, Full()), LINE, ["x"], [])

    def test_names_that_do_not_mend(self):
        full = Either("x", [("d", Full()), ("e", Full())])
        self.unshown(Mended(["c"], full), LINE, ["x"], [])
        self.unshown(Mended(["g"], full), LINE, ["x"], [])
        self.unshown(Mended(["c", "d"], full), LINE, ["x", "y"], [])

    def test_names_barred_or_backing(self):
        self.unshown(Mended(["e"], ONE), LINE, ["x"], ["e"])
        trunk = [plain("g", [], ["v"]), plain("i", [], [], ["v"]), backing("h", "g")]
        tree = Either("v", [("i", Full())])
        self.assertIs(Mended(["i"], tree).shows(trunk, ("l", 1, []), ["v"], []), True)
        self.assertIs(Mended(["h"], tree).shows(trunk, ("l", 1, []), ["v"], []), False)
        self.assertIs(Mended([], Full()).shows(trunk, ("l", 3, []), ["v"], []), True)

    def test_not_as_few_as_can_be(self):
        deep = Either("x", [("d", Either("y", [("f", Full())])), ("e", Full())])
        self.unshown(Mended(["c", "d", "f"], deep), LINE, ["x", "y"], [])
        self.unshown(Mended(["c", "d"], ONE), LINE, ["x"], [])

    def test_a_tree_spoiled(self):
        d, e = ("d", Full()), ("e", Full())
        for tree in (Full(), Bar(["e"]), Either("y", [d, e]), Either("x", [d]), Either("x", [e]),
                     Either("x", [e, d]), Either("x", [d, ("e", Bar(["e"]))]), SHUT,
                     Either("x", [d, ("e", Either("x", [d, e]))])):
            self.unshown(Mended(["e"], tree), LINE, ["x"], [])

    def test_an_unmended(self):
        self.shown(Unmended(SHUT), LINE, ["x"], ["c", "e"])
        self.shown(Unmended(SHUT), LINE, ["x"], ["e", "c", "f"])
        self.unshown(Unmended(SHUT), LINE, ["x"], ["e"])
        self.unshown(Unmended(SHUT), LINE, ["y"], ["c", "e"])
        self.unshown(Unmended(SHUT), ("l", 0, []), ["x"], ["c", "e"])
        self.unshown(Unmended(ONE), LINE, ["x"], ["c", "e"])
        self.unshown(Unmended(Full()), LINE, ["x"], ["c", "e"])
        self.unshown(Unmended(Bar(["c"])), LINE, ["x"], ["c", "e"])
        self.unshown(Unmended(Either("x", [("e", Bar(["e"]))])), LINE, ["x"], ["c", "e"])

    def test_the_fields_as_they_stand_then(self):
        names = ["e"]
        tree = Either("x", [("d", Full()), ("e", Full())])
        mended = Mended(names, tree)
        names.clear()
        tree.pairs.clear()
        tree.fault = "y"
        self.shown(mended, LINE, ["x"], [])
        mended.tree.pairs[1] = ("e", Bar(["e"]))
        self.unshown(mended, LINE, ["x"], [])
        mended.tree = ONE
        self.shown(mended, LINE, ["x"], [])
        mended.names.append("g")
        self.unshown(mended, LINE, ["x"], [])
        unmended = Unmended(SHUT)
        unmended.tree.pairs[0][1].chain.pop()
        self.unshown(unmended, LINE, ["x"], ["c", "e"])
        self.shown(Unmended(SHUT), LINE, ["x"], ["c", "e"])

    def test_as_the_document_words_it(self):
        mended = unmended = 0
        for rng, trunk, line in made.made(600, sizes=(3, 5, 7, 8), most=3, faults=("x", "mends")):
            names = [change[0] for change in trunk]
            faults = rng.choice((["x"], ["mends"], ["x", "mends"], ["x", "zz", "mends", "y"]))
            barred = rng.sample(names, rng.choice((0, 0, 1)))
            due = made.least_mend(trunk, line, faults, barred)
            tree = least_tree(trunk, line, faults, barred, None if due is None else len(due))
            if due is None:
                unmended += 1
                self.assertIs(Unmended(tree).shows(trunk, line, faults, barred), True)
                continue
            mended += bool(due)
            self.assertIsNone(least_tree(trunk, line, faults, barred, len(due) + 1))
            for lot in made.all_lots(trunk, names):
                row = made.row_of(trunk, line) + lot
                good = len(lot) == len(due) and made.stands(trunk, row) and not any(
                    name in barred or made.by_name(trunk, name)[2] for name in lot) and not any(
                    made.has_fault(trunk, made.live(trunk, row), fault) for fault in faults)
                self.assertIs(Mended(lot, tree).shows(trunk, line, faults, barred), good)
        self.assertGreater(min(mended, unmended), 30, (mended, unmended))


class AskersOwn(Truth):
    """Point 1 over answers."""

    def test_what_was_handed_in_stays(self):
        trunk, line, faults, barred = copy.deepcopy((TRUNK, LINE, ["x", "y"], ["c", "e"]))
        chosen = ["d"]
        for turn in range(2):
            Lot(["c", "d"]).shows(trunk, line, "d", barred)
            Barred(["d", "c"]).shows(trunk, line, "d", barred)
            self.assertIs(Unmended(SHUT).shows(trunk, line, faults, barred), True)
            self.assertIs(Mended(["e"], BOTH).shows(trunk, line, faults, []), True)
            for tree in (BOTH, SHUT, Either("y", [("f", Full())]), Full(), Bar(["d", "c"])):
                tree.closes(trunk, line, faults, barred, 1, chosen)
        self.assertEqual((trunk, line, faults, barred), (TRUNK, LINE, ["x", "y"], ["c", "e"]))
        self.assertEqual(chosen, ["d"])

    def test_asking_changes_no_field(self):
        mended = Mended(["e"], BOTH)
        for turn in range(3):
            self.shown(mended, LINE, ["x", "y"], [])
        self.assertEqual(mended, Mended(["e"], BOTH))

    def test_nothing_is_kept_between_questions(self):
        trunk = copy.deepcopy(TRUNK)
        lot = Lot(["c", "d"])
        self.assertIs(lot.shows(trunk, LINE, "d", []), True)
        trunk[3][1].remove("c")
        self.assertIs(lot.shows(trunk, LINE, "d", []), False)


if __name__ == "__main__":
    unittest.main()

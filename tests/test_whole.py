"""Promises over the whole program: refusals at every function, point 1, names told otherwise, known ones."""

import copy
import unittest

from pickline.answers import Bar, Barred, Either, Full, Lot, Mended, Unmended
from pickline.board import Board
from pickline.errors import BadChange, BadLine, BadNames, BadNumber, BadRows, BadTrunk, PickError
from pickline.picking import mend, pick, reach
from pickline.texts import read, read_lines, written, written_lines
from pickline.trunks import apart, editions, hangs, has
from tests import made
from tests.made import backing, plain
from tests.test_trunks import NO_LISTS, NO_NAMES, plains

GOOD = ("good", 0, [])
FAULTS = ["x", "mends", "a"]

# Each function that has a trunk, asked with bad things behind it; and those that have a line.
OF_TRUNKS = (
    lambda trunk: has(trunk, None), lambda trunk: hangs(trunk, None, None),
    lambda trunk: editions(trunk, None, None, None), lambda trunk: apart(trunk, None, None),
    lambda trunk: pick(trunk, None, None, 0), lambda trunk: reach(trunk, None, None),
    lambda trunk: mend(trunk, None, None, 0), lambda trunk: written(trunk),
    lambda trunk: written_lines(trunk, None), lambda trunk: read_lines(trunk, None), lambda trunk: Board(trunk),
)
OF_LINES = (
    lambda trunk, line: has(trunk, line), lambda trunk, line: hangs(trunk, line, None),
    lambda trunk, line: editions(trunk, line, None, None), lambda trunk, line: apart(trunk, line, None),
    lambda trunk, line: apart(trunk, GOOD, line), lambda trunk, line: pick(trunk, line, None, 0),
    lambda trunk, line: reach(trunk, [line], None), lambda trunk, line: reach(trunk, [GOOD, line], None),
    lambda trunk, line: mend(trunk, line, None, 0), lambda trunk, line: written_lines(trunk, [line]),
    lambda trunk, line: written_lines(trunk, [GOOD, line]),
)


def spoiled_changes(trunk, at):
    """What is no change at this place of the trunk."""
    name, leans, backs, brings, mends = trunk[at]
    later = [change[0] for change in trunk[at:]]
    ahead = [change for change in trunk[:at] if change[2] is not None]
    for bad in NO_NAMES + tuple([change[0] for change in trunk[:at]]):
        yield (bad, leans, backs, brings, mends)
    for bad in NO_LISTS + tuple([leans + [other] for other in NO_NAMES + tuple(later) + ("nowhere",)]):
        yield (name, bad, backs, brings, mends)
    for other in ahead:
        # A backing change is leant on; what was backed is leant on; both are backed.
        yield (name, [other[0]], backs, brings, mends)
        yield (name, leans, other[0], [], [])
        if other[2] not in made.live(trunk, [change[0] for change in trunk[:at]]):
            yield (name, [other[2]], backs, brings, mends)
            yield (name, leans, other[2], [], [])
    for other in made.live(trunk, [change[0] for change in trunk[:at]]):
        yield (name, [other, other], backs, brings, mends)
        yield (name, [], other, ["x"], [])
        yield (name, [], other, [], ["x"])
        if made.comes_with(trunk, [other])[1:] and made.comes_with(trunk, [other])[1] != other:
            yield (name, [], made.comes_with(trunk, [other])[1], [], [])
    for bad in NO_LISTS + tuple([brings + [other] for other in NO_NAMES]) + (["x", "x"],):
        yield (name, leans, backs, bad, mends)
        yield (name, leans, backs, brings, bad)
    for bad in (None, name, 0, [], (), list(trunk[at]), trunk[at][:4], trunk[at] + (None,)):
        yield bad


def spoiled_lines(trunk, line):
    """What is no line of the trunk."""
    name, many, picks = line
    for bad in NO_NAMES:
        yield (bad, many, picks)
    for bad in (None, "1", True, False, [], -1, len(trunk) + 1):
        yield (name, bad, [])
    for bad in NO_LISTS + (picks + ["a"] * 41,):
        yield (name, many, bad)
    for bad in NO_NAMES + ("nowhere",):
        for at in range(len(picks) + 1):
            yield (name, many, picks[:at] + [bad] + picks[at:])
    for change in trunk:
        if not made.follows(trunk, made.row_of(trunk, line), change[0]):
            yield (name, many, picks + [change[0]])
    for bad in (None, name, 0, [], (), list(line), line[:2], line + (None,)):
        yield bad


class Refusals(unittest.TestCase):
    """Points 1, 2 and 4 at every function."""

    def refused(self, kind, ask, *asked):
        """That it is refused by this class alone."""
        with self.subTest(asked=asked):
            with self.assertRaises(PickError) as caught:
                ask(*asked)
            self.assertIs(caught.exception.__class__, kind)
            return caught.exception

    def test_no_trunk_or_none(self):
        for ask in OF_TRUNKS:
            for bad in NO_LISTS + ([], tuple(plains(2)), "change a", {"a": plain("a")}):
                self.assertEqual(self.refused(BadTrunk, ask, bad).place, 0)
            self.assertEqual(self.refused(BadTrunk, ask, plains(25)).place, 24)
            self.assertEqual(self.refused(BadTrunk, ask, plains(24) + plains(24)).place, 24)

    def test_a_change_spoiled_at_any_place(self):
        for rng, trunk, line in made.made(16, sizes=(1, 3, 5, 8)):
            for at in range(len(trunk)):
                for bad in spoiled_changes(trunk, at):
                    spoiled = trunk[:at] + [bad] + trunk[at + 1:]
                    kept = copy.deepcopy(spoiled)
                    for ask in OF_TRUNKS:
                        self.assertEqual(self.refused(BadTrunk, ask, spoiled).place, at)
                    self.assertEqual(spoiled, kept)

    def test_two_bad_changes(self):
        for ask in OF_TRUNKS:
            self.assertEqual(self.refused(BadTrunk, ask, [plain("a"), plain("A"), None]).place, 1)
            self.assertEqual(self.refused(BadTrunk, ask, [plain("a"), plain("b", ["c"]), plain("c", ["a", "a"])]).place, 1)

    def test_a_line_spoiled_at_any_place(self):
        for rng, trunk, line in made.made(24, sizes=(1, 3, 5, 8, 24), most=5):
            for bad in spoiled_lines(trunk, line):
                kept = copy.deepcopy((trunk, bad))
                for ask in OF_LINES:
                    self.refused(BadLine, ask, trunk, bad)
                self.assertEqual((trunk, bad), kept)

    def test_what_comes_behind_trunk_and_line(self):
        trunk = plains(3)
        self.refused(BadChange, hangs, trunk, GOOD, "aa")
        self.refused(BadNumber, editions, trunk, GOOD, 1, None)
        self.refused(BadChange, pick, trunk, GOOD, "nowhere", 0)
        self.refused(BadNames, pick, trunk, GOOD, "aa", 0)
        self.refused(BadNames, reach, trunk, [GOOD], None)
        self.refused(BadNames, mend, trunk, GOOD, None)
        self.refused(BadNames, mend, trunk, GOOD, [], 0)
        self.assertEqual(self.refused(BadRows, read_lines, trunk, None).row, 0)
        self.assertEqual(self.refused(BadRows, read, None).row, 0)

    def test_what_lies_at_the_bounds(self):
        names = ["abcdefg" + chr(97 + at) for at in range(24)]
        trunk = [plain(name, names[:at], names, names) for at, name in enumerate(names)]
        line = ("abcdefgh", 24, [])
        self.assertEqual(has(trunk, line), names)
        self.assertEqual(read(written(trunk)), trunk)
        self.assertEqual(read_lines(trunk, "line abcdefgh 24"), [line])
        self.assertEqual(pick(trunk, ("l", 0, []), names[23]), Lot(names))
        self.assertEqual(reach(trunk, [line], names[0]), [])
        self.assertEqual(mend(trunk, line, names[:4], names), Mended([], Full()))
        self.assertEqual(Board(trunk).lines(), [])


class Anew(unittest.TestCase):
    """Point 1: what is told is the same again, whatever became of what was told and handed in."""

    def questions(self, trunk, line, other, barred, faults):
        text, rows = made_text(trunk), made_rows([line, other])
        for change in trunk:
            name = change[0]
            if change[2] is None:
                yield lambda name=name: pick(trunk, line, name, barred)
            if name in made.had(trunk, line):
                yield lambda name=name: hangs(trunk, line, name)
        yield from (lambda: has(trunk, line), lambda: editions(trunk, line, 0, len(line[2])),
                    lambda: apart(trunk, line, other), lambda: reach(trunk, [line, other], "x"),
                    lambda: mend(trunk, line, faults, barred), lambda: written(trunk), lambda: read(text),
                    lambda: written_lines(trunk, [line, other]), lambda: read_lines(trunk, rows))

    def test_the_same_again(self):
        for rng, trunk, line in made.made(60):
            other = made.made_line(rng, trunk, "m", 8)
            handed = (trunk, line, other, made.made_barred(rng, trunk, line), list(FAULTS))
            kept = copy.deepcopy(handed)
            for ask in self.questions(*handed):
                told = ask()
                due = copy.deepcopy(told)
                spoil(told)
                self.assertEqual(ask(), due)
                self.assertEqual(handed, kept)
                self.handed_in_changed(handed)
                self.assertEqual(handed, kept)
                self.assertEqual(ask(), due)

    def handed_in_changed(self, handed):
        """Change what was handed in, ask with it, and make it as it was."""
        trunk, line, other, barred, faults = handed
        last = trunk.pop()
        trunk.append(("late", [], None, ["x"], []))
        if line[2] == [] and line[1] < len(trunk):
            pick(trunk, line, "late", barred)
        trunk[-1] = last
        barred.append(last[0])
        faults.reverse()
        mend(trunk, line, faults, barred)
        faults.reverse()
        barred.pop()

    def test_boards_stay(self):
        for rng, trunk, line in made.made(24, sizes=(4, 9)):
            told = Board(trunk)
            told.cut("l", len(trunk) // 2)
            for change in trunk:
                if change[2] is None:
                    told.pick("l", change[0])
            lines = told.lines()
            handed = copy.deepcopy(trunk)
            spoil(trunk)
            trunk.clear()
            self.assertEqual(told.lines(), lines)
            self.assertEqual(told.has("l"), made.had(handed, lines[0]))


def made_text(trunk):
    """The text of a trunk, by the document's words."""
    rows = []
    for name, leans, backs, brings, mends in trunk:
        parts = [("change", [name]), ("on", leans), ("back", [backs] if backs else []), ("brings", brings),
                 ("mends", mends)]
        rows.append(": ".join([" ".join([word] + names) for word, names in parts if names]))
    return "\n".join(rows)


def made_rows(lines):
    return "\n".join([f"line {name} {many}" + (": " + " ".join(picks) if picks else "")
                      for name, many, picks in lines])


def spoil(told):
    """Change every list that was told, within others, too."""
    if isinstance(told, (list, tuple)):
        for part in told:
            spoil(part)
    if isinstance(told, list):
        told.append("spoiled")
        told.reverse()
    for field in ("names", "chain", "pairs", "tree"):
        if hasattr(told, field):
            spoil(getattr(told, field))


def told_of(trunk, line, other, barred, faults):
    """What all functions tell of these, each answer as a plain tuple."""
    told = [has(trunk, line), apart(trunk, line, other), [form(mend(trunk, line, faults, barred))]]
    told += [reach(trunk, [line, other], fault) for fault in faults]
    for change in trunk:
        if change[0] in told[0]:
            told.append(hangs(trunk, line, change[0]))
        if change[2] is None:
            told.append(form(pick(trunk, line, change[0], barred)))
    return told


def form(told):
    """An answer as tuples and lists, to be named otherwise."""
    if isinstance(told, (Lot, Barred, Bar)):
        return (told.__class__, list(told.names if isinstance(told, Lot) else told.chain))
    if isinstance(told, Either):
        return (Either, told.fault, [(name, form(tree)) for name, tree in told.pairs])
    if isinstance(told, Full):
        return (Full,)
    return (told.__class__, getattr(told, "names", None), form(told.tree))


def otherwise(told, names):
    """The same with all names otherwise."""
    if isinstance(told, (list, tuple)):
        return told.__class__([otherwise(part, names) for part in told])
    return names.get(told, told) if isinstance(told, str) else told


class Otherwise(unittest.TestCase):
    """Points 2, 3, 5, 6, 7 and 8 among one another."""

    def each(self, seeds, sizes=tuple(range(1, 25)), most=12):
        for seed, (rng, trunk, line) in enumerate(made.made(seeds, sizes, most, ("fx", "fy", "fz"))):
            if seed % 2:
                trunk = trunk[:-1] + [plain(trunk[-1][0], [], [], ["fx"])]
                line = made.made_line(rng, trunk[:1 + len(trunk) // 2], "l", 4)
            other = made.made_line(rng, trunk, "m", 6)
            yield rng, trunk, line, other, made.made_barred(rng, trunk, line), ["fx", "fy", "fz"]

    def test_changes_named_otherwise(self):
        for rng, trunk, line, other, barred, faults in self.each(120):
            names = [change[0] for change in trunk]
            fresh = dict(zip(names, rng.sample(["new" + chr(97 + at) for at in range(24)], len(names))))
            due = otherwise(told_of(trunk, line, other, barred, faults), fresh)
            asked = [otherwise(part, fresh) for part in (trunk, line[1:], other[1:], barred)]
            self.assertEqual(told_of(asked[0], line[:1] + asked[1], other[:1] + asked[2], asked[3], faults), due)

    def test_names_exchanged_among_themselves(self):
        for rng, trunk, line, other, barred, faults in self.each(120):
            names = [change[0] for change in trunk]
            fresh = dict(zip(names, rng.sample(names, len(names))))
            due = otherwise(told_of(trunk, line, other, barred, faults), fresh)
            asked = [otherwise(part, fresh) for part in (trunk, line[1:], other[1:], barred)]
            self.assertEqual(told_of(asked[0], line[:1] + asked[1], other[:1] + asked[2], asked[3], faults), due)

    def test_faults_named_otherwise(self):
        for rng, trunk, line, other, barred, faults in self.each(120):
            fresh = {"fx": "fz", "fy": "faulty", "fz": "fx"}
            due = otherwise(told_of(trunk, line, other, barred, faults), fresh)
            asked = otherwise(trunk, fresh)
            self.assertEqual(told_of(asked, line, other, barred, otherwise(faults, fresh)), due)

    def test_a_plain_change_put_behind(self):
        for rng, trunk, line, other, barred, faults in self.each(120, sizes=tuple(range(1, 24))):
            due = told_of(trunk, line, other, barred, faults)
            longer = trunk + [plain("put", [], ["fx", "fy"])]
            self.assertEqual(told_of(longer, line, other, barred, faults), due + [(Lot, ["put"])])

    def test_first_changes_told_as_picks(self):
        for rng, trunk, line, other, barred, faults in self.each(120):
            name, many, picks = line
            names = [change[0] for change in trunk]
            due = told_of(trunk, line, other, barred, faults)
            for less in {0, many // 2, many}:
                same = (name, less, names[less:many] + picks)
                if len(same[2]) <= 40:
                    self.assertEqual(told_of(trunk, same, other, barred, faults), due)

    def test_picks_that_are_the_next_changes(self):
        for rng, trunk, line, other, barred, faults in self.each(60):
            names = [change[0] for change in trunk]
            for many in range(len(names) + 1):
                due = told_of(trunk, ("l", len(names), []), other, barred, faults)
                self.assertEqual(told_of(trunk, ("l", many, names[many:]), other, barred, faults), due)


class Known(unittest.TestCase):
    """Points 3, 5, 6, 8, 9, 10 and 12 as they come out on paper."""

    def test_a_row_of_leanings(self):
        names = [change[0] for change in plains(24)]
        trunk = [plain(name, names[at - 1:at] if at else []) for at, name in enumerate(names)]
        empty = ("l", 0, [])
        self.assertEqual(pick(trunk, empty, names[23]), Lot(names))
        self.assertEqual(pick(trunk, ("l", 10, []), names[12]), Lot(names[10:13]))
        self.assertEqual(pick(trunk, empty, names[23], [names[0]]), Barred(names[::-1]))
        self.assertEqual(pick(trunk, ("l", 1, []), names[23], [names[0]]), Lot(names[1:]))
        self.assertEqual(pick(trunk, ("l", 3, []), names[5], [names[3]]), Barred([names[5], names[4], names[3]]))
        self.assertEqual(hangs(trunk, ("l", 24, []), names[0]), names[1:])
        self.assertEqual(hangs(trunk, ("l", 24, []), names[23]), [])
        self.assertEqual(editions(trunk, ("l", 2, names[2:9]), 3, 1), ([], names[3:5]))
        self.assertEqual(written(trunk[:3]), "change aa\nchange ab: on aa\nchange ac: on ab")
        told = Board(trunk)
        told.cut("l", 4)
        self.assertEqual(told.pick("l", names[6]), names[4:7])

    def test_backed_picked_again_backed_again(self):
        trunk = [plain("a", [], ["x"]), plain("b", ["a"]), backing("c", "b"), plain("d", [], [], ["x"])]
        line = ("l", 3, ["b", "c", "b"])
        self.assertEqual(has(trunk, line), ["a", "b"])
        self.assertEqual(hangs(trunk, line, "a"), ["b"])
        self.assertEqual([editions(trunk, line, 0, many) for many in range(4)],
                         [([], []), (["b"], []), ([], []), (["b"], [])])
        self.assertEqual(pick(trunk, ("l", 3, ["b", "c"]), "b"), Lot(["b"]))
        self.assertEqual(written_lines(trunk, [line]), "line l 3: b c b")
        self.assertEqual(read_lines(trunk, "line l 3: b c b"), [line])
        self.assertEqual(mend(trunk, line, ["x"]), Mended(["d"], Either("x", [("d", Full())])))
        self.assertEqual(mend(trunk, line, ["x"], ["d"]), Unmended(Either("x", [("d", Bar(["d"]))])))
        told = Board(trunk)
        told.cut("l", 2)
        for turn in range(3):
            told.back("l", "c")
            self.assertEqual(told.has("l"), ["a"])
            self.assertEqual(told.pick("l", "b"), ["b"])
        self.assertEqual(told.lines(), [("l", 2, ["c", "b"] * 3)])

    def test_two_menders_one_of_which_needs_more(self):
        trunk = [plain("a", [], ["x"]), plain("b"), plain("c", ["b"]), plain("d", ["c"], [], ["x"]),
                 plain("e", ["b"], [], ["x"])]
        line = ("l", 1, [])
        self.assertEqual(mend(trunk, line, ["x"]).names, ["b", "e"])
        self.assertEqual(mend(trunk, line, ["x"], ["e"]).names, ["b", "c", "d"])
        tree = Either("x", [("d", Full()), ("e", Full())])
        self.assertEqual(mend(trunk, line, ["x"]).tree, tree)
        self.assertIs(tree.closes(trunk, line, ["x"], [], 2), True)
        self.assertIs(tree.closes(trunk, line, ["x"], [], 3), False)
        self.assertEqual(mend(trunk, line, ["x"], ["b"]),
                         Unmended(Either("x", [("d", Bar(["d", "c", "b"])), ("e", Bar(["e", "b"]))])))

    def test_a_ring_of_faults(self):
        trunk = [plain("a", [], ["p"]), plain("b", [], ["q"], ["p"]), plain("c", [], ["r"], ["q"]),
                 plain("d", [], ["p"], ["r"])]
        line = ("l", 1, [])
        self.assertEqual(mend(trunk, line, ["p", "q", "r"]),
                         Mended(["b", "c", "d"], Either("p", [("b", Either("q", [("c", Either("r", [("d", Full())]))]))])))
        self.assertEqual(mend(trunk, line, ["p", "q", "r"], ["d"]),
                         Unmended(Either("p", [("b", Either("q", [("c", Either("r", [("d", Bar(["d"]))]))]))])))
        self.assertEqual(reach(trunk, [("l", 1, []), ("m", 0, ["d"]), ("n", 2, [])], "p"), [("l", "a"), ("m", "d")])
        self.assertEqual(reach(trunk, [("l", 1, []), ("m", 0, ["d"]), ("n", 2, [])], "q"), [("n", "b")])


if __name__ == "__main__":
    unittest.main()

"""Texts of trunks and of lines: written, read, and what is refused."""

import copy
import itertools
import random
import unittest

from pickline.errors import BadLine, BadRows, BadTrunk
from pickline.texts import read, read_lines, written, written_lines
from tests import made
from tests.made import backing, plain
from tests.test_trunks import NO_LISTS, plains

TRUNK = [plain("a", [], ["x", "y"]), plain("b", ["a"], [], ["x"]), plain("on", ["b", "a"], ["mends"], ["back", "x"]),
         backing("back", "on"), backing("change", "b", ["a"]), plain("d")]
TEXT = """change a: brings x y
change b: on a: mends x
change on: on b a: brings mends: mends back x
change back: back on
change change: on a: back b
change d"""
LINES = [("l", 3, ["d", "back"]), ("m", 0, []), ("line", 6, ["b"]), ("n", 0, ["a"])]
LINES_TEXT = """line l 3: d back
line m 0
line line 6: b
line n 0: a"""
NO_TEXTS = (None, 0, True, b"change a", [], ["change a"], (), {}, ("change a",))
SIGNS = "ab:x 0139-+_,;AZ.\t\n\r"
WORDS = ("a", "on", "back", "brings", "mends", "change", "line", "nowhere", "abcdefghi", "A", "0", "03", ":", "",
         "x:", "1", "24", "25")


def bent_rows(text):
    """The text with one row put in, taken out, told twice, exchanged with the next."""
    rows = text.split("\n")
    for at, row in enumerate(rows):
        yield "\n".join(rows[:at] + rows[at + 1:])
        yield "\n".join(rows[:at] + [row] + rows[at:])
        yield "\n".join(rows[:at] + rows[at:at + 2][::-1] + rows[at + 2:])
        for other in ("", " ", "change zz", "line zz 0", "change zz: on a", rows[0], rows[-1]):
            yield "\n".join(rows[:at] + [other] + rows[at:])
            yield "\n".join(rows + [other])


def bent_words(text):
    """The text with a word put otherwise, left out or put in."""
    words = text.split(" ")
    for at in range(len(words)):
        yield " ".join(words[:at] + words[at + 1:])
        for word in WORDS:
            yield " ".join(words[:at] + [word] + words[at + 1:])
            yield " ".join(words[:at] + [word] + words[at:])


def bent_signs(rng, text, many):
    """The text with one to three signs put in, left out or exchanged, so many times."""
    for turn in range(many):
        told = text
        for place in range(rng.randint(1, 3)):
            at, way = rng.randint(0, len(told)), rng.randint(0, 3)
            sign = rng.choice(SIGNS) if way < 2 else told[at:at + 2][::-1]
            told = told[:at] + sign + told[at + (0, 1, 2, 1)[way]:]
            if way == 3:
                told = told[:at] + told[at + 2:]
        yield told


def each_sign(text):
    """The text with each sign left out, exchanged with the next, put otherwise, one put in."""
    for at in range(len(text) + 1):
        yield text[:at] + text[at + 1:]
        yield text[:at] + text[at:at + 2][::-1] + text[at + 2:]
        for sign in SIGNS:
            yield text[:at] + sign + text[at:]
            yield text[:at] + sign + text[at + 1:]


class Told(unittest.TestCase):

    def refused(self, row, ask, *asked):
        with self.subTest(asked=asked[-1]):
            with self.assertRaises(BadRows) as caught:
                ask(*asked)
            self.assertEqual(caught.exception.row, row)
            self.assertNotIsInstance(caught.exception.row, bool)

    def as_read(self, due, ask, *asked):
        """That this is told, or refused at this row."""
        if isinstance(due, int):
            self.refused(due, ask, *asked)
        else:
            self.assertEqual(ask(*asked), due, asked[-1])


class Trunks(Told):

    def test_written(self):
        self.assertEqual(written(TRUNK), TEXT)
        self.assertEqual(written([plain("a")]), "change a")
        self.assertEqual(written([plain("abcdefgh"), plain("b", ["abcdefgh"])]),
                         "change abcdefgh\nchange b: on abcdefgh")
        self.assertEqual(written(TRUNK[:1] + [plain("b", [], [], ["w", "v"])]),
                         "change a: brings x y\nchange b: mends w v")

    def test_read(self):
        self.assertEqual(read(TEXT), TRUNK)
        self.assertEqual(read("change a"), [plain("a")])
        self.assertEqual(read("change a\nchange b: on a: back a"), [plain("a"), backing("b", "a", ["a"])])
        self.assertEqual(read("change a: mends x"), [("a", [], None, [], ["x"])])

    def test_kinds(self):
        for change in read(TEXT):
            self.assertIsInstance(change, tuple)
            self.assertEqual([isinstance(part, list) for part in change], [False, True, False, True, True])
            self.assertIsInstance(change[0], str)
        self.assertIsNone(read("change a")[0][2])

    def test_twenty_four_and_more(self):
        text = "\n".join(["change " + change[0] for change in plains(24)])
        self.assertEqual(read(text), plains(24))
        self.assertEqual(written(plains(24)), text)
        self.refused(24, read, text + "\nchange zz")
        self.refused(24, read, text + "\n")
        self.refused(3, read, text.replace("change ad", "change ab") + "\nchange zz\nchange zy")

    def test_without_signs_and_line_ends(self):
        self.refused(0, read, "")
        self.refused(0, read, "\n")
        self.refused(0, read, "\nchange a")
        self.refused(1, read, "change a\n")
        self.refused(1, read, "change a\n\nchange b")
        self.refused(1, read, "change a\n\n")
        self.refused(0, read, "change a\r\nchange b")
        self.refused(0, read, "change a\rchange b")

    def test_no_text(self):
        for bad in NO_TEXTS:
            self.refused(0, read, bad)

    def test_rows_that_are_not_written_so(self):
        for row in ("b", "change", "change ", "change  b", " change b", "change b ", "Change b", "changeb", "line b 0",
                    "change b:", "change b: ", "change b: on", "change b: on ", "change b: on  a", "change b:on a",
                    "change b : on a", "change b:  on a", "change b: on a ", "change b: on a:", "change b: On a",
                    "change b: on a: on a", "change b: back", "change b: back a a", "change b: back a: on a",
                    "change b: brings", "change b: mends", "change b: mends x: brings y", "change b: mends x: mends y",
                    "change b: off a", "change b: a", "change b c", "change b: on a: on c", "change b: none",
                    "change b, on a", "change b: on a,c", "change b: on a; back a", "change b: brings x\t"):
            self.refused(1, read, "change a\n" + row + "\nchange c")
            self.refused(1, read, "change a\n" + row)

    def test_rows_that_break_what_a_trunk_is(self):
        for row in ("change a", "change abcdefghi", "change B", "change b: on c", "change b: on b", "change b: on a a",
                    "change b: back c", "change b: back b", "change b: back a: brings x", "change b: back a: mends x",
                    "change b: brings x x", "change b: mends x y x", "change b: brings abcdefghi", "change b: mends X",
                    "change b1", "change b: on a: back B"):
            self.refused(1, read, "change a\n" + row + "\nchange c")
        self.refused(2, read, "change a\nchange b: on a\nchange c: back a")
        self.refused(2, read, "change a\nchange b: back a\nchange c: back a")
        self.refused(2, read, "change a\nchange b: back a\nchange c: on a")
        self.refused(2, read, "change a\nchange b: back a\nchange c: on b")

    def test_no_trunk(self):
        for bad in NO_LISTS + ([],):
            with self.assertRaises(BadTrunk) as caught:
                written(bad)
            self.assertEqual(caught.exception.place, 0)
        for bad, place in ((plains(25), 24), (TRUNK + [None], 6), (TRUNK[1:], 0), (TRUNK[:3] + TRUNK[4:], 3)):
            with self.assertRaises(BadTrunk) as caught:
                written(bad)
            self.assertEqual(caught.exception.place, place)

    def test_there_and_back(self):
        for rng, trunk, line in made.made(120):
            text = written(trunk)
            self.assertEqual(read(text), trunk)
            self.assertEqual(made.read(text), trunk)

    def test_bent(self):
        whole = 0
        texts = [TEXT] + [written(trunk) for rng, trunk, line in made.made(48, sizes=(2, 3, 5, 8, 16))]
        for seed, text in enumerate(texts):
            drawn = bent_signs(random.Random(seed), text, 80)
            words = bent_words(text) if len(text) < 200 else []
            for told in itertools.chain(bent_rows(text), drawn, words):
                due = made.read(told)
                whole += not isinstance(due, int)
                self.as_read(due, read, told)
        self.assertGreater(whole, 300)

    def test_each_sign(self):
        for told in each_sign(TEXT):
            self.as_read(made.read(told), read, told)


class Lines(Told):

    def test_written(self):
        self.assertEqual(written_lines(TRUNK, LINES), LINES_TEXT)
        self.assertEqual(written_lines(TRUNK, LINES[1:2]), "line m 0")
        self.assertEqual(written_lines(plains(24), [("l", 24, [])]), "line l 24")

    def test_read(self):
        self.assertEqual(read_lines(TRUNK, LINES_TEXT), LINES)
        self.assertEqual(read_lines(TRUNK, "line m 0"), [("m", 0, [])])
        self.assertEqual(read_lines(plains(24), "line l 10\nline m 24"), [("l", 10, []), ("m", 24, [])])
        name, many, picks = read_lines(TRUNK, LINES_TEXT)[0]
        self.assertIsInstance(read_lines(TRUNK, LINES_TEXT)[0], tuple)
        self.assertIsInstance(many, int)
        self.assertIsInstance(picks, list)

    def test_no_lines(self):
        self.assertEqual(written_lines(TRUNK, []), "")
        self.assertEqual(read_lines(TRUNK, ""), [])

    def test_line_ends(self):
        self.refused(0, read_lines, TRUNK, "\n")
        self.refused(0, read_lines, TRUNK, "\nline l 0")
        self.refused(1, read_lines, TRUNK, "line l 0\n")
        self.refused(1, read_lines, TRUNK, "line l 0\n\nline m 0")
        self.refused(0, read_lines, TRUNK, "line l 0\r\nline m 0")
        self.refused(0, read_lines, TRUNK, " ")

    def test_numbers_with_needless_noughts(self):
        for number in ("00", "03", "003", "+3", "-0", "-1", "3.0", "3_0", "1e0", "x", "", "7", "24", "25", "0x1",
                       "9" * 5000, "0" * 5000, " 3", "3 ", "3,", "three"):
            self.refused(1, read_lines, TRUNK, "line m 0\nline l " + number)
            self.refused(1, read_lines, TRUNK, "line m 0\nline l " + number + ": d")
        for number in range(7):
            self.assertEqual(read_lines(TRUNK, f"line l {number}"), [("l", number, [])])

    def test_rows_that_are_not_written_so(self):
        for row in ("l 0", "line", "line l", "line l ", "line 0", "line  l 0", "line l  0", " line l 0", "line l 0 ",
                    "Line l 0", "line l 0:", "line l 0: ", "line l 0 : d", "line l 0:d", "line l 0:  d", "line l 0: d ",
                    "line l 0 d", "line l 0: d: a", "line l 0: a  d", "line l 0: a,d", "line l 0: on d", "line l: 0",
                    "line l 0; d", "change a", "line l 0: d:", "line l m 0", "line l 0\td"):
            self.refused(1, read_lines, TRUNK, "line m 0\n" + row)
            self.refused(1, read_lines, TRUNK, "line m 0\n" + row + "\nline n 0")

    def test_rows_that_are_no_lines(self):
        for row in ("line m 0", "line m 1: d", "line abcdefghi 0", "line L 0", "line l 0: b", "line l 0: zz",
                    "line l 3: a", "line l 0: d d", "line l 0: back", "line l 6: back", "line l 3: change",
                    "line l 3: back change b b", "line l 0: D"):
            self.refused(1, read_lines, TRUNK, "line m 0\n" + row + "\nline n 0")
        self.refused(2, read_lines, TRUNK, "line l 0\nline m 0\nline l 3")

    def test_forty_picks(self):
        picks = ["on", "back"] * 20
        text = "line l 2: " + " ".join(picks)
        self.assertEqual(read_lines(TRUNK, text), [("l", 2, picks)])
        self.assertEqual(written_lines(TRUNK, [("l", 2, picks)]), text)
        self.refused(0, read_lines, TRUNK, text + " on")
        self.assertRaises(BadLine, written_lines, TRUNK, [("l", 2, picks + ["on"])])

    def test_no_text(self):
        for bad in NO_TEXTS:
            self.refused(0, read_lines, TRUNK, bad)

    def test_no_lines_to_write(self):
        for bad in NO_LISTS + (tuple(LINES), LINES[0]):
            with self.subTest(bad):
                self.assertRaises(BadLine, written_lines, TRUNK, bad)
        for bad in (None, 0, "l", [], ["l", 0, []], ("l", 9, []), ("l", True, []), ("l", 0, ["b"]), ("L", 0, [])):
            for at in range(3):
                lines = LINES[1:3]
                lines.insert(at, bad)
                self.assertRaises(BadLine, written_lines, TRUNK, lines)
        self.assertRaises(BadLine, written_lines, TRUNK, LINES + [("m", 1, [])])

    def test_the_trunk_is_refused_first(self):
        for ask in (written_lines, read_lines):
            for bad in NO_LISTS:
                with self.assertRaises(BadTrunk) as caught:
                    ask(bad, None)
                self.assertEqual(caught.exception.place, 0)
            with self.assertRaises(BadTrunk) as caught:
                ask(TRUNK + [TRUNK[0]], "")
            self.assertEqual(caught.exception.place, 6)

    def test_there_and_back(self):
        for rng, trunk, line in made.made(96):
            lines = made.made_lines(rng, trunk, rng.randint(0, 5), 16)
            text = written_lines(trunk, lines)
            self.assertEqual(read_lines(trunk, text), lines)
            self.assertEqual(made.read_lines(trunk, text), lines)

    def test_bent(self):
        whole = 0
        texts = [(TRUNK, LINES_TEXT)]
        for rng, trunk, line in made.made(48, sizes=(2, 3, 5, 8, 16)):
            texts.append((trunk, written_lines(trunk, made.made_lines(rng, trunk, rng.randint(0, 5), 8))))
        for seed, (trunk, text) in enumerate(texts):
            drawn = bent_signs(random.Random(seed), text, 80)
            words = bent_words(text) if len(text) < 120 else []
            for told in itertools.chain(bent_rows(text), drawn, words):
                due = made.read_lines(trunk, told)
                whole += not isinstance(due, int)
                self.as_read(due, read_lines, trunk, told)
        self.assertGreater(whole, 300)

    def test_each_sign(self):
        for told in each_sign(LINES_TEXT):
            self.as_read(made.read_lines(TRUNK, told), read_lines, TRUNK, told)


class AskersOwn(unittest.TestCase):
    """Point 1."""

    def test_what_is_told_is_new_each_time(self):
        for ask in (lambda: read(TEXT), lambda: read_lines(TRUNK, LINES_TEXT)):
            told, due = ask(), copy.deepcopy(ask())
            for parts in told:
                for part in parts:
                    if isinstance(part, list):
                        part.append("zz")
            told.clear()
            self.assertEqual(ask(), due)

    def test_what_was_handed_in_stays(self):
        for rng, trunk, line in made.made(24):
            lines = made.made_lines(rng, trunk, 4, 8)
            kept = copy.deepcopy((trunk, lines))
            written(trunk)
            read_lines(trunk, written_lines(trunk, lines)).clear()
            self.assertEqual((trunk, lines), kept)


if __name__ == "__main__":
    unittest.main()

"""A board: lines of one trunk that are cut, picked onto and taken back."""

from pickline.answers import copied
from pickline.errors import BadChange, BadLine, BadNumber, Barring, NoDeed
from pickline.rows import MOST_PICKS
from pickline.rows import book_of, chains_to, check_pick, checked_trunk, follows, had, is_backing
from pickline.rows import is_line, is_name, lacked, live_in, row_of


class Board:
    """Lines of a trunk, and the deeds by which they came to be as they are."""

    def __init__(self, trunk):
        checked_trunk(trunk)
        self.book = book_of(copied(trunk))
        # A line here is never changed, another one is put in its stead; so the elder one can be kept.
        self.cuts = {}
        self.deeds = []

    def cut(self, name, many):
        """A new line with so many of the trunk's first changes."""
        line = (name, many, [])
        if not is_line(self.book, line) or name in self.cuts:
            raise BadLine("no new line")
        self.deeds.append((name, None))
        self.cuts[name] = line

    def pick(self, name, change, barred=None):
        """Pick a change and what it needs; the names that were picked."""
        line = self.line_called(name)
        check_pick(self.book, change, barred)
        held = had(self.book, line)
        chains = chains_to(self.book, held, barred)
        if change in chains:
            raise Barring(chains[change])
        lot = lacked(self.book, held, [change])
        self.put_behind(line, lot)
        return lot

    def back(self, name, change):
        """Pick a backing change."""
        line = self.line_called(name)
        live = live_in(self.book, row_of(self.book, line))
        if not is_backing(self.book, change) or not follows(self.book, live, change):
            raise BadChange("no backing change that can be picked here")
        self.put_behind(line, [change])

    def undo(self):
        """Take back the last deed that isn't taken back yet."""
        if not self.deeds:
            raise NoDeed("nothing to take back")
        name, line = self.deeds.pop()
        if line is None:
            del self.cuts[name]
        else:
            self.cuts[name] = line

    def lines(self):
        """All lines, in the turn in which they were cut."""
        return [(name, many, list(picks)) for name, many, picks in self.cuts.values()]

    def has(self, name):
        """The changes that a line has, in the trunk's order."""
        return had(self.book, self.line_called(name))

    def line_called(self, name):
        """The line of this name; BadLine where there is none."""
        if not is_name(name) or name not in self.cuts:
            raise BadLine("no name of a line")
        return self.cuts[name]

    def put_behind(self, line, names):
        """Put a line in its own stead that has these names behind its picks."""
        name, many, picks = line
        if len(picks) + len(names) > MOST_PICKS:
            raise BadNumber("more picks than a line may have")
        self.deeds.append((name, line))
        self.cuts[name] = (name, many, picks + names)

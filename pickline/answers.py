"""What questions about picks and faults are answered with, and whether an answer holds."""

from pickline.rows import BACKS, LEANS, MENDS
from pickline.rows import book_of, had, has_fault, is_plain, lacked, leant_on, row_of, stands


def copied(told):
    """A field anew: its lists, those within them, and the trees there, whose fields are lists."""
    if isinstance(told, list):
        return [copied(part) for part in told]
    if isinstance(told, tuple):
        return tuple([copied(part) for part in told])
    if isinstance(told, Either):
        return Either(told.fault, told.pairs)
    if isinstance(told, Full):
        return Full()
    if isinstance(told, Bar):
        return Bar(told.chain)
    return told


def is_tree(told):
    """Whether this is a tree; a field may hold anything by the time it is asked."""
    return isinstance(told, (Either, Full, Bar))


def leads(book, names, firsts, chain, barred):
    """Whether a chain leads from one of the first ones, over none of these names, to a barred one."""
    if not chain or chain[0] not in firsts or chain[-1] not in barred:
        return False
    if not all([link in book and link not in names for link in chain]):
        return False
    for link, lean in zip(chain, chain[1:]):
        if lean not in book[link][LEANS]:
            return False
    return True


def frees(book, line, names, faults, barred):
    """Whether these names may be picked behind a line's row, and it has none of the faults then."""
    # Other than itself in the trunk's order is what has unknown names, or one twice.
    if names != [name for name in book if name in names]:
        return False
    if any([name in barred or book[name][BACKS] is not None for name in names]):
        return False
    if not stands(book, row_of(book, line) + names):
        return False
    held = had(book, line) + names
    return not any([has_fault(book, held, fault) for fault in faults])


class Answer:
    """What all answers have in common. Each is like another one with the same fields."""


class Lot(Answer):
    """The fewest names that a change needs in a line."""

    def __init__(self, names):
        self.names = copied(names)

    def __eq__(self, other):
        return isinstance(other, Lot) and self.names == other.names

    def shows(self, trunk, line, change, barred):
        """Whether this is the lot of the change."""
        book = book_of(trunk)
        if not is_plain(book, change):
            return False
        # All on which the change leans must be live, and nothing else helps: there is one lot.
        needed = lacked(book, had(book, line), [change])
        return self.names == needed and not any([name in barred for name in needed])


class Barred(Answer):
    """A chain of leanings from a change to a barred one."""

    def __init__(self, chain):
        self.chain = copied(chain)

    def __eq__(self, other):
        return isinstance(other, Barred) and self.chain == other.chain

    def shows(self, trunk, line, change, barred):
        """Whether the chain shows that the change can't be had."""
        book = book_of(trunk)
        return is_plain(book, change) and leads(book, had(book, line), [change], self.chain, barred)


class Mended(Answer):
    """The fewest names that mend a line, and a tree that shows that fewer do not."""

    def __init__(self, names, tree):
        self.names = copied(names)
        self.tree = copied(tree)

    def __eq__(self, other):
        return isinstance(other, Mended) and self.names == other.names and self.tree == other.tree

    def shows(self, trunk, line, faults, barred):
        """Whether the names mend the line, and the tree closes."""
        if not frees(book_of(trunk), line, self.names, faults, barred) or not is_tree(self.tree):
            return False
        return self.tree.closes(trunk, line, faults, barred, len(self.names))


class Unmended(Answer):
    """A tree that shows that no names mend a line."""

    def __init__(self, tree):
        self.tree = copied(tree)

    def __eq__(self, other):
        return isinstance(other, Unmended) and self.tree == other.tree

    def shows(self, trunk, line, faults, barred):
        """Whether the tree closes."""
        return is_tree(self.tree) and self.tree.closes(trunk, line, faults, barred)


class Either(Answer):
    """A tree: one of the changes that mend a fault is picked, each with a tree of its own."""

    def __init__(self, fault, pairs):
        self.fault = fault
        self.pairs = copied(pairs)

    def __eq__(self, other):
        return isinstance(other, Either) and self.fault == other.fault and self.pairs == other.pairs

    def closes(self, trunk, line, faults, barred, many=None, chosen=None):
        """Whether the fault is there, and each way to mend it closes."""
        book = book_of(trunk)
        picked = [] if chosen is None else chosen
        held = had(book, line) + leant_on(book, picked)
        if self.fault not in faults or not has_fault(book, held, self.fault):
            return False
        menders = [name for name in book if self.fault in book[name][MENDS]]
        if [pair[0] for pair in self.pairs] != menders:
            return False
        for name, tree in self.pairs:
            if not is_tree(tree) or not tree.closes(trunk, line, faults, barred, many, picked + [name]):
                return False
        return True


class Full(Answer):
    """A tree's end: so many are picked that it is no better than what is known."""

    def __eq__(self, other):
        return isinstance(other, Full)

    def closes(self, trunk, line, faults, barred, many=None, chosen=None):
        """Whether what is chosen and comes with it counts as many as told."""
        if many is None:
            return False
        book = book_of(trunk)
        picked = [] if chosen is None else chosen
        return len(lacked(book, had(book, line), picked)) >= many


class Bar(Answer):
    """A tree's end: a chain from one that is chosen to a barred one."""

    def __init__(self, chain):
        self.chain = copied(chain)

    def __eq__(self, other):
        return isinstance(other, Bar) and self.chain == other.chain

    def closes(self, trunk, line, faults, barred, many=None, chosen=None):
        """Whether the chain shows that one that is chosen can't be had."""
        book = book_of(trunk)
        picked = [] if chosen is None else chosen
        return leads(book, had(book, line), picked, self.chain, barred)

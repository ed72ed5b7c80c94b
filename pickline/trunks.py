"""What the lines of a trunk have, what hangs on it, and what came and went."""

from pickline.errors import BadChange, BadNumber
from pickline.rows import LEANS, check_line, checked_trunk, had, is_number


def has(trunk, line):
    """The changes that a line has, in the trunk's order."""
    book = checked_trunk(trunk)
    check_line(book, line)
    return had(book, line)


def hangs(trunk, line, change):
    """The other changes that a line has which lean on this one, or on one that hangs on it."""
    book = checked_trunk(trunk)
    check_line(book, line)
    names = had(book, line)
    if not isinstance(change, str) or change not in names:
        raise BadChange("no change that the line has")
    hanging = []
    # What leans stands behind in the trunk, so one way forth finds all.
    for name in names:
        if any([lean == change or lean in hanging for lean in book[name][LEANS]]):
            hanging.append(name)
    return hanging


def editions(trunk, line, one, other):
    """What came to a line, and what went, from its first `one` picks to its first `other`."""
    book = checked_trunk(trunk)
    check_line(book, line)
    name, many, picks = line
    for number in (one, other):
        if not is_number(number) or not 0 <= number <= len(picks):
            raise BadNumber("no number of picks of the line")
    elder = had(book, (name, many, picks[:one]))
    newer = had(book, (name, many, picks[:other]))
    came = [change for change in newer if change not in elder]
    went = [change for change in elder if change not in newer]
    return came, went


def apart(trunk, line, other):
    """The first change of the trunk that just one of two lines has, or None."""
    book = checked_trunk(trunk)
    check_line(book, line)
    check_line(book, other)
    names = had(book, line)
    others = had(book, other)
    for change in book:
        if (change in names) != (change in others):
            return change
    return None

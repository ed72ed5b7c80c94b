"""Texts of trunks and lines: a row for each change, a row for each line."""

from pickline.errors import BadRows
from pickline.rows import MOST_CHANGES
from pickline.rows import check_lines, checked_trunk, wrong_change, wrong_line


def written(trunk):
    """The text of a trunk."""
    checked_trunk(trunk)
    return "\n".join([row_of_change(change) for change in trunk])


def read(text):
    """The trunk that a text tells."""
    if not isinstance(text, str):
        raise BadRows(0)
    trunk = [change_of_row(row) for row in text.split("\n")]
    place = wrong_change(trunk)
    if place is not None:
        raise BadRows(place)
    return trunk


def written_lines(trunk, lines):
    """The text of lines, without signs where there are none."""
    book = checked_trunk(trunk)
    check_lines(book, lines)
    return "\n".join([row_of_line(line) for line in lines])


def read_lines(trunk, text):
    """The lines that a text tells, none where it has no signs."""
    book = checked_trunk(trunk)
    if not isinstance(text, str):
        raise BadRows(0)
    if text == "":
        return []
    lines = [line_of_row(row) for row in text.split("\n")]
    place = wrong_line(book, lines)
    if place is not None:
        raise BadRows(place)
    return lines


def row_of_change(change):
    """A change as it is written."""
    name, leans, backs, brings, mends = change
    backed = [] if backs is None else [backs]
    row = "change " + name
    for word, names in (("on", leans), ("back", backed), ("brings", brings), ("mends", mends)):
        if names:
            row = row + ": " + " ".join([word] + names)
    return row


def change_of_row(row):
    """What a row of a trunk's text tells, whatever its words; None where it isn't written so."""
    head, *parts = row.split(": ")
    told = {"on": [], "back": [], "brings": [], "mends": []}
    for part in parts:
        word, *names = part.split(" ")
        told[word] = names
    backs = told["back"][0] if told["back"] else None
    change = (head[len("change "):], told["on"], backs, told["brings"], told["mends"])
    # Whatever was taken too lightly here is written otherwise.
    return change if row_of_change(change) == row else None


def row_of_line(line):
    """A line as it is written."""
    name, many, picks = line
    row = f"line {name} {many}"
    if picks:
        row = row + ": " + " ".join(picks)
    return row


def line_of_row(row):
    """What a row of a text of lines tells, whatever its words; None where it isn't written so."""
    head, *parts = row.split(": ")
    words = head.split(" ")
    counts = [str(many) for many in range(MOST_CHANGES + 1)]
    if len(words) != 3 or words[2] not in counts:
        return None
    picks = parts[0].split(" ") if parts else []
    line = (words[1], counts.index(words[2]), picks)
    # Whatever was taken too lightly here is written otherwise.
    return line if row_of_line(line) == row else None

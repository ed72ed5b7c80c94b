"""What a change needs in a line, which lines have a fault, and what mends a line."""

from pickline.answers import Bar, Barred, Either, Full, Lot, Mended, Unmended
from pickline.errors import BadNames
from pickline.rows import BRINGS, MENDS, NAME
from pickline.rows import are_names, are_unlike_names, chains_to, check_line, check_lines, check_pick
from pickline.rows import checked_trunk, had, has_fault, is_name, lacked

MOST_FAULTS = 4


def pick(trunk, line, change, barred=None):
    """The least lot that a change needs in a line, or a chain to what bars it."""
    book = checked_trunk(trunk)
    check_line(book, line)
    check_pick(book, change, barred)
    held = had(book, line)
    chains = chains_to(book, held, barred)
    if change in chains:
        return Barred(chains[change])
    return Lot(lacked(book, held, [change]))


def reach(trunk, lines, fault):
    """Of each line that has the fault: its name, and the first change that brings it there."""
    book = checked_trunk(trunk)
    check_lines(book, lines)
    if not is_name(fault):
        raise BadNames("no name of a fault")
    pairs = []
    for line in lines:
        held = had(book, line)
        if has_fault(book, held, fault):
            bringers = [name for name in held if fault in book[name][BRINGS]]
            pairs.append((line[NAME], bringers[0]))
    return pairs


def mend(trunk, line, faults, barred=None):
    """The fewest names that mend a line of these faults, or that there are none; with a tree."""
    book = checked_trunk(trunk)
    check_line(book, line)
    if not are_unlike_names(faults) or len(faults) > MOST_FAULTS:
        raise BadNames("no list of at most 4 unlike names of faults")
    if barred is not None and not are_names(barred):
        raise BadNames("barred is no list of names")
    held = had(book, line)
    chains = chains_to(book, held, barred)
    names = fewest(book, held, faults, chains, [])
    if names is None:
        return Unmended(tree_of(book, held, faults, chains, None, []))
    return Mended(names, tree_of(book, held, faults, chains, len(names), []))


def fault_of(book, names, faults):
    """The first of these faults that one with these changes has, or None."""
    for fault in faults:
        if has_fault(book, names, fault):
            return fault
    return None


def menders(book, fault):
    """All changes that mend a fault, in the trunk's order."""
    return [name for name in book if fault in book[name][MENDS]]


def fewest(book, held, faults, chains, names):
    """The fewest names, these among them, that mend what is held; None where there are none."""
    fault = fault_of(book, held + names, faults)
    if fault is None:
        return names
    best = None
    # What brought the fault stays, so one of its menders is among any names that will do.
    for name in menders(book, fault):
        if name not in chains:
            found = fewest(book, held, faults, chains, lacked(book, held, names + [name]))
            if found is not None and (best is None or len(found) < len(best)):
                best = found
    return best


def tree_of(book, held, faults, chains, many, names):
    """A tree that shows that no names, these among them, mend what is held: none fewer than many."""
    if many is not None and len(names) >= many:
        return Full()
    # There is a fault still: otherwise these names would do, and none fewer than many do.
    fault = fault_of(book, held + names, faults)
    pairs = []
    for name in menders(book, fault):
        if name in chains:
            pairs.append((name, Bar(chains[name])))
        else:
            rest = lacked(book, held, names + [name])
            pairs.append((name, tree_of(book, held, faults, chains, many, rest)))
    return Either(fault, pairs)

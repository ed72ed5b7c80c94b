"""What trunks, rows and lines are: the tests and walks that the other files share.

A book is a dict of a trunk's changes by their names, in the trunk's order.
"""

from pickline.errors import BadChange, BadLine, BadNames, BadTrunk

MOST_LETTERS = 8
MOST_CHANGES = 24
MOST_PICKS = 40

# Where the parts of a change stand in its tuple; a line begins with its name, too.
NAME = 0
LEANS = 1
BACKS = 2
BRINGS = 3
MENDS = 4


def is_number(told):
    """Whether this is a whole number; True and False are none."""
    return isinstance(told, int) and not isinstance(told, bool)


def is_name(told):
    """Whether this is a text of 1 to 8 small letters."""
    if not isinstance(told, str) or not 1 <= len(told) <= MOST_LETTERS:
        return False
    return all(["a" <= sign <= "z" for sign in told])


def are_names(told):
    """Whether this is a list of names."""
    return isinstance(told, list) and all([is_name(name) for name in told])


def are_unlike_names(told):
    """Whether this is a list of names, none twice."""
    return are_names(told) and len(set(told)) == len(told)


def is_plain(book, told):
    """Whether this is the name of a plain change of the book."""
    return is_name(told) and told in book and book[told][BACKS] is None


def is_backing(book, told):
    """Whether this is the name of a backing change of the book."""
    return is_name(told) and told in book and book[told][BACKS] is not None


def is_change(book, told):
    """Whether this has the form of a change behind those of the book."""
    if not isinstance(told, tuple) or len(told) != 5:
        return False
    name, leans, backs, brings, mends = told
    if not is_name(name) or name in book:
        return False
    if not are_unlike_names(leans) or not all([is_plain(book, lean) for lean in leans]):
        return False
    if not are_unlike_names(brings) or not are_unlike_names(mends):
        return False
    if backs is None:
        return True
    return is_plain(book, backs) and not brings and not mends


def put(book, live, name):
    """Make of what is live in a row what is live with this name behind it."""
    backs = book[name][BACKS]
    if backs is None:
        live[name] = True
    else:
        live.pop(backs, None)


def follows(book, live, name):
    """Whether this name may stand behind a row in which these are live."""
    backs = book[name][BACKS]
    if not all([lean in live for lean in book[name][LEANS]]):
        return False
    if backs is None:
        return name not in live
    return backs in live and not any([backs in book[other][LEANS] for other in live])


def live_in(book, row):
    """The plain changes that are live in a row, as the keys of a dict."""
    live = {}
    for name in row:
        put(book, live, name)
    return live


def stands(book, row):
    """Whether a row of names of the book stands."""
    live = {}
    for name in row:
        if not follows(book, live, name):
            return False
        put(book, live, name)
    return True


def wrong_change(trunk):
    """The number of the first change that is none with those ahead; None where this is a trunk."""
    if not isinstance(trunk, list) or not trunk:
        return 0
    book = {}
    live = {}
    for place, change in enumerate(trunk):
        if place == MOST_CHANGES or not is_change(book, change):
            return place
        name = change[NAME]
        book[name] = change
        if not follows(book, live, name):
            return place
        put(book, live, name)
    return None


def checked_trunk(trunk):
    """The book of what was handed in as a trunk; BadTrunk where it is none."""
    place = wrong_change(trunk)
    if place is not None:
        raise BadTrunk(place)
    return book_of(trunk)


def book_of(trunk):
    """The book of a trunk that is known to be one."""
    return {change[NAME]: change for change in trunk}


def row_of(book, line):
    """The row of a line: the trunk's first changes that it has, then its picks."""
    name, many, picks = line
    return list(book)[:many] + picks


def is_line(book, told):
    """Whether this is a line of the trunk whose book this is."""
    if not isinstance(told, tuple) or len(told) != 3:
        return False
    name, many, picks = told
    if not is_name(name) or not is_number(many) or not 0 <= many <= len(book):
        return False
    if not are_names(picks) or len(picks) > MOST_PICKS:
        return False
    return all([pick in book for pick in picks]) and stands(book, row_of(book, told))


def check_line(book, line):
    """BadLine where what was handed in is no line of the trunk whose book this is."""
    if not is_line(book, line):
        raise BadLine("no line of this trunk")


def wrong_line(book, lines):
    """The number of the first of a list that is no line, or has an earlier one's name; or None."""
    names = []
    for place, line in enumerate(lines):
        if not is_line(book, line) or line[NAME] in names:
            return place
        names.append(line[NAME])
    return None


def check_lines(book, lines):
    """BadLine where what was handed in is no list of lines of unlike names."""
    if not isinstance(lines, list) or wrong_line(book, lines) is not None:
        raise BadLine("no lines of this trunk")


def check_pick(book, change, barred):
    """BadChange where this is no plain change; BadNames where barred is no list of names, nor None."""
    if not is_plain(book, change):
        raise BadChange("no plain change of this trunk")
    if barred is not None and not are_names(barred):
        raise BadNames("barred is no list of names")


def had(book, line):
    """The changes that a line has, in the trunk's order."""
    live = live_in(book, row_of(book, line))
    return [name for name in book if name in live]


def leant_on(book, names):
    """These changes and all on which they lean, and these on theirs, in the trunk's order."""
    wanted = {name: True for name in names}
    # What is leant on stands ahead in the trunk, so one way back finds all.
    for name in reversed(list(book)):
        if name in wanted:
            for lean in book[name][LEANS]:
                wanted[lean] = True
    return [name for name in book if name in wanted]


def lacked(book, held, names):
    """What one who holds these lacks of the names and all that comes with them."""
    return [name for name in leant_on(book, names) if name not in held]


def chains_to(book, held, barred):
    """Of each change from which leanings lead to a barred one, over none that is held: a chain."""
    chains = {}
    if barred is None:
        return chains
    # What is leant on stands ahead in the trunk, so its chain is known by then.
    for name in book:
        if name in held:
            continue
        if name in barred:
            chains[name] = [name]
            continue
        for lean in book[name][LEANS]:
            if lean in chains:
                chains[name] = [name] + chains[lean]
                break
    return chains


def has_fault(book, names, fault):
    """Whether one who has these changes has the fault."""
    if any([fault in book[name][MENDS] for name in names]):
        return False
    return any([fault in book[name][BRINGS] for name in names])

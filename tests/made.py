"""What the tests share: made trunks and lines, and the document's words told slowly.

Nothing here uses the program: each definition is written anew from the document, by places in
a row and by trying all ways, where the program walks and counts.
"""

import itertools
import random
import re

# Among the names are words that texts have, too.
WORDS = ("a", "change", "back", "line", "abcdefgh", "brings", "mends", "b", "c", "zz", "on", "none",
         "d", "e", "true", "row", "f", "pick", "g", "lot", "h", "full", "either", "trunk")
FAULTS = ("mends", "x", "faulty", "a", "brings")


def plain(name, leans=(), brings=(), mends=()):
    return (name, list(leans), None, list(brings), list(mends))


def backing(name, backs, leans=()):
    return (name, list(leans), backs, [], [])


def by_name(trunk, name):
    for change in trunk:
        if change[0] == name:
            return change
    return None


def is_live(trunk, row, name):
    if by_name(trunk, name)[2] is not None or name not in row:
        return False
    last = max(at for at, word in enumerate(row) if word == name)
    return not any(by_name(trunk, word)[2] == name for word in row[last + 1:])


def live(trunk, row):
    return [change[0] for change in trunk if is_live(trunk, row, change[0])]


def follows(trunk, row, name):
    """Whether a name may stand behind a row, by what is ahead of it there."""
    ahead = live(trunk, row)
    same, leans, backs = by_name(trunk, name)[:3]
    if any(lean not in ahead for lean in leans):
        return False
    if backs is None:
        return name not in ahead
    return backs in ahead and not any(backs in by_name(trunk, word)[1] for word in ahead)


def stands(trunk, row):
    return all(follows(trunk, row[:at], name) for at, name in enumerate(row))


def row_of(trunk, line):
    return [change[0] for change in trunk[:line[1]]] + line[2]


def had(trunk, line):
    return live(trunk, row_of(trunk, line))


def has_fault(trunk, names, fault):
    changes = [change for change in trunk if change[0] in names]
    brought = [change for change in changes if fault in change[3]]
    mended = [change for change in changes if fault in change[4]]
    return bool(brought) and not mended


def all_lots(trunk, names):
    """All lists of these names in the trunk's order, the shortest first."""
    ordered = [change[0] for change in trunk if change[0] in names]
    for many in range(len(ordered) + 1):
        for lot in itertools.combinations(ordered, many):
            yield list(lot)


def least_lot(trunk, line, change, barred):
    """The lot of point 5 by trying all, or None."""
    row = row_of(trunk, line)
    for lot in all_lots(trunk, [word[0] for word in trunk if word[0] not in barred]):
        if stands(trunk, row + lot) and is_live(trunk, row + lot, change):
            return lot
    return None


def least_mend(trunk, line, faults, barred):
    """Names of point 8 by trying all, or None."""
    row = row_of(trunk, line)
    free = [word[0] for word in trunk if word[2] is None and word[0] not in barred]
    for lot in all_lots(trunk, free):
        if stands(trunk, row + lot):
            names = live(trunk, row + lot)
            if not any(has_fault(trunk, names, fault) for fault in faults):
                return lot
    return None


def comes_with(trunk, names):
    """These names and all on which they lean, and these on theirs."""
    found = list(names)
    for name in found:
        found += [lean for lean in by_name(trunk, name)[1] if lean not in found]
    return found


def chain_to(trunk, line, name, barred):
    """A chain of leanings from this change to a barred one, none of them had, or None."""
    if name in had(trunk, line):
        return None
    if name in barred:
        return [name]
    for lean in by_name(trunk, name)[1]:
        chain = chain_to(trunk, line, lean, barred)
        if chain is not None:
            return [name] + chain
    return None


def is_chain(trunk, line, name, chain, barred):
    """Whether this is a chain of point 5 from the change of this name."""
    held = had(trunk, line)
    if not chain or chain[0] != name or chain[-1] not in barred:
        return False
    if any(by_name(trunk, link) is None or link in held for link in chain):
        return False
    return all(lean in by_name(trunk, link)[1] for link, lean in zip(chain, chain[1:]))


def is_mend(trunk, line, names, faults, barred):
    """Whether these names are such as point 8 tells, be they as few as can be or not."""
    if names != [change[0] for change in trunk if change[0] in names]:
        return False
    if any(name in barred or by_name(trunk, name)[2] is not None for name in names):
        return False
    row = row_of(trunk, line) + names
    return stands(trunk, row) and not any(has_fault(trunk, live(trunk, row), fault) for fault in faults)


def wrong_change(trunk):
    """The number of the first of many tuples of five that is no change with those ahead, or None."""
    for at, (name, leans, backs, brings, mends) in enumerate(trunk):
        ahead = {change[0]: change for change in trunk[:at]}
        named = [name] + leans + brings + mends + ([] if backs is None else [backs])
        if at == 24 or not all(re.fullmatch("[a-z]{1,8}", word) for word in named) or name in ahead:
            return at
        if any(len(set(words)) < len(words) for words in (leans, brings, mends)):
            return at
        used = leans + ([] if backs is None else [backs])
        if any(word not in ahead or ahead[word][2] is not None for word in used):
            return at
        if backs is not None and brings + mends:
            return at
        if not follows(trunk[:at + 1], list(ahead), name):
            return at
    return None


def wrong_line(trunk, lines):
    """The number of the first of many triples that is no line, or has an earlier one's name; or None."""
    names = [change[0] for change in trunk]
    for at, (name, many, picks) in enumerate(lines):
        if not re.fullmatch("[a-z]{1,8}", name) or name in [line[0] for line in lines[:at]]:
            return at
        if not 0 <= many <= len(trunk) or len(picks) > 40 or not all(pick in names for pick in picks):
            return at
        if not stands(trunk, row_of(trunk, lines[at])):
            return at
    return None


CHANGE = re.compile("change ([a-z]+)(?:: on ([a-z]+(?: [a-z]+)*))?(?:: back ([a-z]+))?"
                    "(?:: brings ([a-z]+(?: [a-z]+)*))?(?:: mends ([a-z]+(?: [a-z]+)*))?")
LINE = re.compile("line ([a-z]+) (0|[1-9][0-9]*)(?:: ([a-z]+(?: [a-z]+)*))?")


def read(text):
    """The trunk of a text, or the number of the first row that is none."""
    rows = text.split("\n")
    told = [CHANGE.fullmatch(row) for row in rows]
    fine = (told + [None]).index(None)
    trunk = []
    for row in told[:fine]:
        on, brings, mends = [(row.group(part) or "").split() for part in (2, 4, 5)]
        trunk.append((row.group(1), on, row.group(3), brings, mends))
    wrong = wrong_change(trunk)
    if wrong is None and fine < len(rows):
        return fine
    return trunk if wrong is None else wrong


def read_lines(trunk, text):
    """The lines of a text, or the number of the first row that is none."""
    rows = text.split("\n") if text else []
    told = [LINE.fullmatch(row) for row in rows]
    fine = (told + [None]).index(None)
    lines = [(row.group(1), int(row.group(2)), (row.group(3) or "").split()) for row in told[:fine]]
    wrong = wrong_line(trunk, lines)
    if wrong is None and fine < len(rows):
        return fine
    return lines if wrong is None else wrong


def made_change(rng, trunk, name, faults):
    ahead = live(trunk, [word[0] for word in trunk])
    leant = {lean for word in ahead for lean in by_name(trunk, word)[1]}
    free = [word for word in ahead if word not in leant]
    leans = rng.sample(ahead, rng.randint(0, min(3, len(ahead))))
    if free and rng.random() < 0.25:
        return backing(name, rng.choice(free), leans[:1])
    brings = rng.sample(faults, rng.choice((0, 0, 1, 2)))
    return plain(name, leans, brings, rng.sample(faults, rng.choice((0, 0, 0, 1, 2))))


def made_trunk(rng, many, faults):
    trunk = []
    for name in rng.sample(WORDS, many):
        trunk.append(made_change(rng, trunk, name, faults))
    return trunk


def made_line(rng, trunk, name, most):
    """A line with up to so many picks; whatever stands behind its row may be picked."""
    many = rng.choice((0, len(trunk), rng.randint(0, len(trunk))))
    picks = []
    row = row_of(trunk, (name, many, picks))
    for turn in range(rng.randint(0, most)):
        free = [word[0] for word in trunk if follows(trunk, row, word[0])]
        if free:
            picks.append(rng.choice(free))
            row.append(picks[-1])
    return (name, many, picks)


def made_barred(rng, trunk, line):
    """No, few or many barred names: of the trunk, live ones, such as aren't there."""
    names = [change[0] for change in trunk]
    many = rng.choice((0, 0, 1, 1, 2, len(names) // 3))
    barred = rng.sample(names, min(many, len(names)))
    barred += rng.choice(([], [], ["nowhere"], had(trunk, line)[:2]))
    rng.shuffle(barred)
    return barred


def made_lines(rng, trunk, many, most):
    return [made_line(rng, trunk, name, most) for name in rng.sample(WORDS, many)]


def made(seeds, sizes=tuple(range(1, 25)), most=16, faults=FAULTS):
    """Triples of a maker of chance with a fixed seed, a trunk and a line of it."""
    for seed in range(seeds):
        rng = random.Random(seed)
        trunk = made_trunk(rng, sizes[seed % len(sizes)], faults)
        yield rng, trunk, made_line(rng, trunk, "l", most)

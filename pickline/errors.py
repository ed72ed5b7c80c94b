"""The refusals of Pickline, each a class of its own."""


class PickError(ValueError):
    """What all refusals have in common."""


class BadTrunk(PickError):
    """What was handed in is no trunk; place is the number of the first change that is none."""

    def __init__(self, place):
        super().__init__("no trunk")
        self.place = place


class BadLine(PickError):
    """What was handed in is no line of the trunk."""


class BadChange(PickError):
    """What was handed in is no change that can be asked for here."""


class BadNames(PickError):
    """What was handed in is no name, or no list of names, as is due here."""


class BadNumber(PickError):
    """What was handed in is no number that can be told here."""


class BadRows(PickError):
    """What was handed in is no text of rows; row is the number of the first row that is none."""

    def __init__(self, row):
        super().__init__("no such rows")
        self.row = row


class Barring(PickError):
    """A change can't be picked; chain leads from it to one that is barred."""

    def __init__(self, chain):
        super().__init__("a chain leads to a barred change")
        # The chain is the asker's own, whatever becomes of the list that it was made from.
        self.chain = list(chain)


class NoDeed(PickError):
    """There is nothing to take back."""

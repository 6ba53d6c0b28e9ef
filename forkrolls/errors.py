"""What the program refuses, with a class of its own for each kind of refusal."""


class RollError(ValueError):
    """What is handed in is not what was asked for."""


class NoName(RollError):
    """It is no name."""


class NoKey(RollError):
    """It is no key."""


class NoValue(RollError):
    """It is no value."""


class NoPlace(RollError):
    """It is no place."""


class NoWrites(RollError):
    """It is no row of writes."""


class NoState(RollError):
    """It is no state."""


class NoWeb(RollError):
    """It is no web."""


class NoLot(RollError):
    """It is no lot of the web, or no row of lots."""


class NoOrder(RollError):
    """It is no order of the lot."""


class NoWay(RollError):
    """It is no way of the lot."""


class NoDeed(RollError):
    """It is no deed that can be asked for."""


class NoHand(RollError):
    """It is no hand."""


class NoRight(RollError):
    """The hand has no right to this."""


class NoTable(RollError):
    """The table isn't there."""


class NoColumn(RollError):
    """The column isn't there."""


class NoRow(RollError):
    """The row isn't there, or it is no row."""


class Taken(RollError):
    """The name is given already."""


class NoQuestion(RollError):
    """It is no question."""


class NoAnswer(RollError):
    """The question doesn't tell this row."""


class NoNumber(RollError):
    """It is no number such as was asked for."""


class NoText(RollError):
    """The text isn't written as it should be."""


class TooWide(RollError):
    """There is more than was asked for at most."""


class LackError(LookupError):
    """What is handed in leads to nothing; it is kept as `name`."""

    def __init__(self, name):
        LookupError.__init__(self, f"refused: {name!r}")
        self.name = name


class NoBranch(LackError):
    """The hand sees no such branch or mark."""

    def __init__(self, name):
        LackError.__init__(self, name)


class Lacking(LackError):
    """The web, or the lot, has no such deed."""

    def __init__(self, name):
        LackError.__init__(self, name)


class Undone(LackError):
    """The deed doesn't stand."""

    def __init__(self, name):
        LackError.__init__(self, name)


class Settled(LackError):
    """The deed is settled."""

    def __init__(self, name):
        LackError.__init__(self, name)


class Clashes(LackError):
    """The place clashes."""

    def __init__(self, name):
        LackError.__init__(self, name)

"""The refusals of the program, one class for each."""


class HailError(ValueError):
    """Any refusal."""


class NoWeb(HailError):
    """These are no places and ties of a web."""


class NoPlace(HailError):
    """A number is no place of the web."""


class NoThing(HailError):
    """A thing is no place and no tie of the web."""


class NoLooks(HailError):
    """A list is no rising list of places, or a look can't be put in or taken out."""


class NoTree(HailError):
    """The web is no tree."""


class NotOne(HailError):
    """A list is none of the choices."""


class NoSuch(HailError):
    """No choice has this number."""


class NoCode(HailError):
    """No place or tie has this code."""


class TooMany(HailError):
    """The web or the kind is too great to be asked this."""


class NotHeard(HailError):
    """There aren't as many answers as looks."""


class NoRow(HailError):
    """The desk knows no such row."""


class NoBack(HailError):
    """Nothing is left to be taken back."""


class Apart(HailError):
    """The places don't hang together; place is the least one that place 0 can't come to."""

    def __init__(self, place):
        HailError.__init__(self, f"no ties lead from place 0 to place {place}")
        self.place = place


class NoText(HailError):
    """A text is no written web; row is the number of its first wrong row."""

    def __init__(self, row):
        HailError.__init__(self, f"row {row} is no row of a web")
        self.row = row

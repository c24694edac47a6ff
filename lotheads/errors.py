"""The refusals: each stands right under LotError, and none under another one."""


class LotError(ValueError):
    """Any refusal."""


class NoThing(LotError):
    """What should be a thing is none."""


class NoForest(LotError):
    """What should be a forest is none."""


class NoShort(LotError):
    """What should be a manner of finding is none."""


class NoMany(LotError):
    """What should be the number of things is none."""


class NoJoin(LotError):
    """What should be a way of joining, or of naming, is none."""


class NoDeed(LotError):
    """A row holds what is no deed, no join, no telling or no tie; number says where."""

    def __init__(self, number=None):
        super().__init__("no deed")
        self.number = number


class NoWorth(LotError):
    """No worth is told of such a store."""


class NoMoment(LotError):
    """What should be a moment of the row is none."""


class NoNumber(LotError):
    """What should be the number of a join is none."""


class NoBack(LotError):
    """No join stands that could be taken back."""


class NoMark(LotError):
    """What should say how many joins are to stand does not."""


class NoPair(LotError):
    """What should be a pair of unlike things is none."""


class NoRest(LotError):
    """What should be a rest is none."""


class NoFit(LotError):
    """The tellings clash."""


class NoWeight(LotError):
    """What should be the weights of the things are none."""


class NoLots(LotError):
    """What should be the lots of the things are none."""


class NoBoard(LotError):
    """What should be a board is none."""


class NoText(LotError):
    """What should be a written row of deeds is none; row says where."""

    def __init__(self, row=0):
        super().__init__("no text of a row of deeds")
        self.row = row


class NoRow(LotError):
    """What a desk is told is no row of words that it knows."""

"""The refusals: one error class for each, all straight under RankError."""


class RankError(ValueError):
    pass


class NoOrder(RankError):
    pass


class NoMany(RankError):
    pass


class NoPairs(RankError):
    pass


class Ring(RankError):
    pass


class NoThing(RankError):
    pass


class NoRow(RankError):
    pass


class NoRows(RankError):
    pass


class NoNumber(RankError):
    pass


class NoChain(RankError):
    pass


class NoTurns(RankError):
    pass


class NoPoints(RankError):
    pass


class NoKind(RankError):
    pass


class TooMany(RankError):
    pass


class Bare(RankError):
    pass


class NoLine(RankError):
    pass


class NoText(RankError):
    def __init__(self, at):
        RankError.__init__(self, f"word {at} cannot stand where it does")
        self.at = at

"""The refusals: one class for each, all of them straight beneath RoundError."""


class RoundError(ValueError):
    pass


class NoNet(RoundError):
    def __init__(self, at):
        RoundError.__init__(self, at)
        self.at = at


class NoText(RoundError):
    def __init__(self, at):
        RoundError.__init__(self, at)
        self.at = at


class NoWord(RoundError):
    def __init__(self, at):
        RoundError.__init__(self, at)
        self.at = at


class NoOne(RoundError):
    def __init__(self, many):
        RoundError.__init__(self, many)
        self.many = many


class NoLetter(RoundError):
    def __init__(self, letter):
        RoundError.__init__(self, letter)
        self.letter = letter


class NoCross(RoundError):
    pass


class NoPivot(RoundError):
    pass


class NoSet(RoundError):
    pass


class NoDeed(RoundError):
    pass


class NoLine(RoundError):
    pass


class TooMany(RoundError):
    pass

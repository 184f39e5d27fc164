"""The errors of the package, each with the fields that tell what is wrong."""


class CallError(ValueError):
    """The base class of all errors of the package."""


class BadHouse(CallError):
    """No house; `part` is "whole", "halls" or "maps"."""

    def __init__(self, part):
        super().__init__(f"no house, for what is wrong with: {part}")
        self.part = part


class BadHall(CallError):
    """No hall of the house."""


class BadLot(CallError):
    """No ascending tuple of unlike halls of the house, at least one."""


class BadRow(CallError):
    """No row; `index` is the place of the first that is no letter, or None."""

    def __init__(self, index):
        super().__init__(f"no row of at most 100 letters, first wrong place: {index}")
        self.index = index


class BadNumber(CallError):
    """No number of those that may stand there."""


class BadNet(CallError):
    """No ascending tuple of unlike ties."""


class BadMap(CallError):
    """No map of the halls."""


class NotTurns(CallError):
    """A letter that is not one to one, where all have to be."""


class BadText(CallError):
    """No string."""


class BadLine(CallError):
    """A text that tells nothing; `line` and `word`, from 1, are where it fails."""

    def __init__(self, line, word):
        super().__init__(f"line {line}, word {word} cannot stand or is lacking")
        self.line = line
        self.word = word


class BadStep(CallError):
    """No letter was called that could be taken back."""


class TooMany(CallError):
    """More than the `most` that an answer may go through."""

    def __init__(self, most):
        super().__init__(f"more than {most}")
        self.most = most

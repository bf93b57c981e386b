"""The refusals. Where two are due, the one that stands further up here goes first."""


class BookError(ValueError):
    pass


class NoOrder(BookError):
    pass


class NoSentence(BookError):
    pass


class NoMark(BookError):
    pass


class NoRoom(BookError):
    pass


class NoWord(BookError):
    pass


class NoRow(BookError):
    pass


class NoNumber(BookError):
    pass


class NoWeights(BookError):
    pass


class NoShares(BookError):
    pass


class NoCover(BookError):
    pass


class TooGreat(BookError):
    pass


class NoNote(BookError):
    pass

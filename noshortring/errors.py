"""The refusals: each stands straight under RingError, none under another one."""


class RingError(ValueError):
    """Any refusal."""


class NoPlace(RingError):
    """What was handed in is no place of the web, or no tuple of its places."""


class NoNumber(RingError):
    """What was handed in is no whole number within its bounds."""


class NoLine(RingError):
    """What was handed in is no tie, or no row, that is due."""


class NoRing(RingError):
    """The web has a ring that is too short."""


class NotEven(RingError):
    """The places of the web have not as many ties as are due."""


class NoWeb(RingError):
    """There is no such web; number tells what is wrong."""

    def __init__(self, number):
        self.number = number


class NoText(RingError):
    """The text writes no web; row tells where."""

    def __init__(self, row):
        self.row = row


class TooGreat(RingError):
    """There are more, many, than the most that is taken."""

    def __init__(self, many, most):
        self.many = many
        self.most = most

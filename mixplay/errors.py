"""The refusals, each straight under PlayError.

Those that keep a hand or a choice have no words of their own: a number may have more figures
than Python writes out, and to write one into words would then be an error of another kind.
"""


class PlayError(ValueError):
    pass


class NoNumber(PlayError):
    pass


class NoTable(PlayError):
    pass


class NoStart(PlayError):
    pass


class NoOrder(PlayError):
    pass


class NotTwo(PlayError):
    pass


class NoPlan(PlayError):
    pass


class NoChoice(PlayError):
    def __init__(self, hand, choice):
        self.hand = hand
        self.choice = choice


class NoMixing(PlayError):
    def __init__(self, hand):
        self.hand = hand

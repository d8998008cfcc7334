"""The refusals: one class for each, all under LendError."""


class LendError(ValueError):
    pass


class NoPart(LendError):
    pass


class NoName(LendError):
    pass


class NoWay(LendError):
    pass


class Stale(LendError):
    pass


class NotSole(LendError):
    pass


class Against(LendError):

    def __init__(self, reason, row):
        self.reason = reason
        self.row = row


class NoText(LendError):
    pass


class Misfit(LendError):
    pass

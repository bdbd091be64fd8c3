"""The refusals: one class for each, all under StripError."""


class StripError(ValueError):
    pass


class NoRules(StripError):
    pass


class NoTime(StripError):
    def __init__(self, flight, time):
        self.flight = flight
        self.time = time


class NoPlace(StripError):
    pass


class NotFree(StripError):
    pass


class TooMany(StripError):
    pass


class NoPlan(StripError):
    def __init__(self, crowd):
        self.crowd = list(crowd)


class NoSheet(StripError):
    def __init__(self, row):
        self.row = row


class NoRow(StripError):
    pass

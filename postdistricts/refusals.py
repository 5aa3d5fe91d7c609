"""The refusals that a call may meet, one error class for each."""


class NotInRange(Exception):
    pass


class NotAsTold(Exception):
    pass


class NoSuchPoint(Exception):
    pass


class NoPlan(Exception):
    pass


class TooMany(Exception):
    pass

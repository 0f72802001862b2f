"""The refusals: one class for each, all of them under GoldError."""


class GoldError(ValueError):
    pass


class NoNumber(GoldError):
    pass


class NoRow(GoldError):
    pass


class NoNote(GoldError):
    pass

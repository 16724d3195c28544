"""The refusals of the program."""


class ShelfError(ValueError):
    pass


class NoName(ShelfError):
    pass


class NoNumber(ShelfError):
    pass


class NoRule(ShelfError):
    pass

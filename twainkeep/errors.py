"""The refusals of the program, each straight under TwainError."""


class TwainError(ValueError):
    pass


class NoPart(TwainError):
    pass


class NoPlace(TwainError):
    pass


class Twice(TwainError):
    pass


class Linked(TwainError):
    pass


class Apart(TwainError):
    pass


class NoDeed(TwainError):
    pass


class NoText(TwainError):
    def __init__(self, row):
        self.row = row

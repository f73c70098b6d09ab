"""The refusals: one class for each, all right under SpreadError."""


class SpreadError(ValueError):
    pass


class NoText(SpreadError):
    def __init__(self, at):
        self.at = at


class NoMachine(SpreadError):
    def __init__(self, word, at):
        self.word = word
        self.at = at


class NoFit(SpreadError):
    pass


class NoName(SpreadError):
    def __init__(self, name):
        self.name = name


class NoRow(SpreadError):
    pass

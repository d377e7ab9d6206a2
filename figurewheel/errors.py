"""The refusals: one class for each, all straight under WheelError."""


class WheelError(ValueError):
    pass


class NoBase(WheelError):
    pass


class TooGreat(WheelError):
    pass


class NotLike(WheelError):
    pass


class NoStep(WheelError):
    pass


class NoLine(WheelError):
    pass


class NoMachine(WheelError):
    def __init__(self, word, number):
        self.word = word
        self.number = number


class NoText(WheelError):
    def __init__(self, at):
        self.at = at


class NoWords(WheelError):
    def __init__(self, letter):
        self.letter = letter


class NoPair(WheelError):
    def __init__(self, pair):
        self.pair = pair


class TooWide(WheelError):
    def __init__(self, many):
        self.many = many


class NoName(WheelError):
    def __init__(self, name):
        self.name = name

"""What the program refuses with: one class for each refusal."""


class WrightError(ValueError):
    pass


class BadTree(WrightError):
    pass


class BadName(WrightError):
    pass


class BadRule(WrightError):
    pass


class NoAsk(WrightError):
    pass


class BadAnswer(WrightError):
    pass


class NoThing(WrightError):
    pass


class BadThing(WrightError):
    pass


class Clash(WrightError):
    pass


class BadKeep(WrightError):
    pass


class NoDeed(WrightError):
    pass


class BadText(WrightError):
    def __init__(self, row):
        self.row = row

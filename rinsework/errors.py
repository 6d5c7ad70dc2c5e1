"""The refusals: one error class for each, all of them straight under RinseError."""


class RinseError(ValueError):
    pass


class NoRinses(RinseError):
    pass


class NoStart(RinseError):
    pass


class TooMany(RinseError):
    pass


class NoCloth(RinseError):
    pass


class Twice(RinseError):
    def __init__(self, name):
        self.name = name


class NoName(RinseError):
    pass


class NoPlan(RinseError):
    pass


class NoMove(RinseError):
    def __init__(self, at):
        self.at = at


class NoVats(RinseError):
    pass


class NoTime(RinseError):
    pass


class NothingDone(RinseError):
    pass


class NoText(RinseError):
    def __init__(self, part):
        self.part = part


class NoRow(RinseError):
    pass


class NoHouse(RinseError):
    pass

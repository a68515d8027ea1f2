"""The refusals of Cuebook: one error class for each, all of them under CueError."""


class CueError(ValueError):
    pass


class NoPlay(CueError):
    def __init__(self, place):
        self.place = place


class NoCounts(CueError):
    def __init__(self, place):
        self.place = place


class TooFew(CueError):
    def __init__(self, needed):
        self.needed = needed


class NoBooks(CueError):
    def __init__(self, name):
        self.name = name


class Apart(CueError):
    def __init__(self, kind, place, names):
        self.kind = kind
        self.place = place
        self.names = names


class Meets(CueError):
    def __init__(self, place, name):
        self.place = place
        self.name = name


class NoCast(CueError):
    pass


class NoText(CueError):
    def __init__(self, row):
        self.row = row


class NoLine(CueError):
    pass


class Unknown(CueError):
    def __init__(self, what):
        self.what = what

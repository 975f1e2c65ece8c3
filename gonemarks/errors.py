"""The refusals: each one keeps the very things that it was made of."""


class GoneError(ValueError):
    """Any refusal."""


class NoBook(GoneError):
    """A plain thing is no right book."""

    def __init__(self, word, place):
        self.word = word
        self.place = place


class NoDeed(GoneError):
    """A deed can't be done."""

    def __init__(self, word):
        self.word = word


class NoLines(GoneError):
    """Lines don't write what was to be read."""

    def __init__(self, row):
        self.row = row


class NoPaper(GoneError):
    """A plain thing is no paper by which a mark may go."""

    def __init__(self, word, place):
        self.word = word
        self.place = place


class NoBack(GoneError):
    """A plain thing is no contrary."""

    def __init__(self, word):
        self.word = word


class NoWorld(GoneError):
    """A plain thing is no right world."""

    def __init__(self, word, place):
        self.word = word
        self.place = place


class NoMeeting(GoneError):
    """Seats can't meet."""

    def __init__(self, word):
        self.word = word


class NoRow(GoneError):
    """A desk can't read a row."""

    def __init__(self, row):
        self.row = row

"""The errors of the package."""

# Python itself keeps what an error is made with for its message, so no class here passes it on to its base.


class PartsError(ValueError):
    """What all errors of wrong values have in common."""


class BadLayout(PartsError):
    """What was passed is no LAYOUT; place tells where."""

    def __init__(self, place):
        self.place = place


class BadFile(PartsError):
    """What was passed is no FILE of the LAYOUT; place tells where."""

    def __init__(self, place):
        self.place = place


class BadRow(PartsError):
    """What was passed is no ROW of the LAYOUT; place tells where."""

    def __init__(self, place):
        self.place = place


class BadLog(PartsError):
    """What was passed is no LOG of the LAYOUT; place tells where."""

    def __init__(self, place):
        self.place = place


class BadText(PartsError):
    """What was passed is no text as wanted; place tells where."""

    def __init__(self, place):
        self.place = place


class BadDeed(PartsError):
    """A deed cannot be done; word tells why."""

    def __init__(self, word):
        self.word = word


class BadQuestion(PartsError):
    """What was asked for makes no sense; the text tells why."""


class Clash(RuntimeError):
    """Two FILEs that are merged have changed the source name in two ways."""

    def __init__(self, name):
        self.name = name


class Gap(RuntimeError):
    """The KIND kind does not watch the KIND other, as it should to be SAFE."""

    def __init__(self, kind, other):
        self.kind = kind
        self.other = other


class Waste(RuntimeError):
    """The KIND kind watches the KIND other, as it should not to be SPARING."""

    def __init__(self, kind, other):
        self.kind = kind
        self.other = other


class Missing(KeyError):
    """There is nothing of this name."""

    def __init__(self, name):
        self.name = name

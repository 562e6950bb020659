"""The errors of Rulerkeep: each holds the value that it was created with."""

# The messages are fixed and leave the value out: a value may be of any kind and size, also too long to write.


class KeepError(ValueError):
    """Any error that Rulerkeep raises."""


class BadLives(KeepError):
    """The value is no lives."""

    def __init__(self, value):
        KeepError.__init__(self, "no lives")
        self.value = value


class BadRank(KeepError):
    """The value is no rank."""

    def __init__(self, value):
        KeepError.__init__(self, "not an integer from 0 as the rank")
        self.value = value


class BadTicks(KeepError):
    """The value is no tick, or no number of ticks."""

    def __init__(self, value):
        KeepError.__init__(self, "not an integer from 0 to 10 ** 18 as the ticks")
        self.value = value


class BadAge(KeepError):
    """The value is no age at the tick of the store."""

    def __init__(self, value):
        KeepError.__init__(self, "not an integer from 0 to the tick as the age")
        self.value = value


class NotKept(KeepError):
    """The value is no point that the store has."""

    def __init__(self, value):
        KeepError.__init__(self, "no point that the store has")
        self.value = value


class OtherTick(KeepError):
    """The value is the tick of another store, which is not the store's own."""

    def __init__(self, value):
        KeepError.__init__(self, "the other store is at another tick")
        self.value = value


class TooMany(KeepError):
    """The value is a number of things that are too many to list."""

    def __init__(self, value):
        KeepError.__init__(self, "too many")
        self.value = value


class TooWide(KeepError):
    """The value is a distance that is too great."""

    def __init__(self, value):
        KeepError.__init__(self, "too great a distance")
        self.value = value


class BadText(KeepError):
    """The value is not the text of a rule or a wish."""

    def __init__(self, value):
        KeepError.__init__(self, "not so written")
        self.value = value


class BadLine(KeepError):
    """The value is no line of a session."""

    def __init__(self, value):
        KeepError.__init__(self, "no line of a session")
        self.value = value

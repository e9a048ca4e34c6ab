"""The errors that the package raises."""


def copied(thing):
    """Return thing with each list and tuple in it made anew, so that it shares no list."""
    if isinstance(thing, list):
        return [copied(part) for part in thing]
    if isinstance(thing, tuple):
        return tuple([copied(part) for part in thing])
    return thing


class QueueError(ValueError):
    """The base of all errors of the package."""


class AllKnown(QueueError):
    """An end is told, but none is asked any more."""


class BadAnswer(QueueError):
    """The answer is no end of a QUEUE of two."""

    def __init__(self, answer):
        # An answer may be a list, which its owner can still change.
        self.answer = copied(answer)


class BadLine(QueueError):
    """The line of this number is no request."""

    def __init__(self, number):
        self.number = number


class BadPair(QueueError):
    """The pair at this place can not stand in a Book beside those ahead of it."""

    def __init__(self, place):
        self.place = place


class BadText(QueueError):
    """The piece of this number is wrong."""

    def __init__(self, piece):
        self.piece = piece


class Known(QueueError):
    """There is a Book of this NAME already."""

    def __init__(self, name):
        self.name = name


class NoBook(QueueError):
    """There is no Book of this NAME."""

    def __init__(self, name):
        self.name = name


class NoKind(QueueError):
    """There is no KIND of this name."""

    def __init__(self, name):
        self.name = name


class NoNumber(QueueError):
    """Nothing has this number."""

    def __init__(self, number):
        self.number = number


class NoPlace(QueueError):
    """Nobody stands at the place of this number, or no EXCHANGE is possible there."""

    def __init__(self, number):
        self.number = number


class NotHandedOn(QueueError):
    """The Book is not handed on."""


class NothingDone(QueueError):
    """There is nothing to take back."""

"""The errors of the package: each keeps the very objects that it is made of."""


class ApartError(ValueError):
    """What all errors of the package have in common; never raised itself."""


class Wrong(ApartError):
    """An argument, by its place from 0, is not as described."""

    def __init__(self, place):
        self.place = place


class NoName(ApartError):
    """There is no such name."""

    def __init__(self, name):
        self.name = name


class BadKind(ApartError):
    """A name does not have the kind that a statement wants."""

    def __init__(self, name):
        self.name = name


class NoPlace(ApartError):
    """There is no such place."""

    def __init__(self, place):
        self.place = place


class NoWay(ApartError):
    """There is no way with this index."""

    def __init__(self, index):
        self.index = index


class NoProc(ApartError):
    """There is no such procedure."""

    def __init__(self, name):
        self.name = name


class BadCall(ApartError):
    """A call, by its procedure and the index of its way, does not go with what it calls."""

    def __init__(self, name, index):
        self.name = name
        self.index = index


class NoStart(ApartError):
    """No start keeps the facts."""


class Unlike(ApartError):
    """Two things do not have the same names."""


class NotFar(ApartError):
    """A name has a kind that tells nothing on this side of a difference."""

    def __init__(self, name):
        self.name = name


class BadRow(ApartError):
    """There is no such row of roads at this index."""

    def __init__(self, row):
        self.row = row


class NotSo(ApartError):
    """A row or a way is of another kind."""

    def __init__(self, row):
        self.row = row


class TooMany(ApartError):
    """There is more to be written than this."""

    def __init__(self, most):
        self.most = most


class Never(ApartError):
    """The place is never come to."""


class Endless(ApartError):
    """There is no greatest difference."""


class NoEntry(ApartError):
    """There is nothing with this number."""

    def __init__(self, many):
        self.many = many


class NoDeed(ApartError):
    """This is no deed."""


class Full(ApartError):
    """The log has all the deeds that it can hold."""

    def __init__(self, most):
        self.most = most


class Refused(ApartError):
    """What the deed would make is not to be."""

    def __init__(self, deed):
        self.deed = deed


class Nothing(ApartError):
    """There is nothing to undo or to do again."""


class NoText(ApartError):
    """This is the text of no such thing."""


class NoCommand(ApartError):
    """This is no command."""

"""The error classes of the package."""


class MoveError(ValueError):
    """What all errors of the package have in common; it is raised nowhere itself."""


class Wrong(MoveError):
    """The argument at this place is not as described."""

    def __init__(self, place):
        self.place = place


class Full(MoveError):
    """There are more than this many."""

    def __init__(self, limit):
        self.limit = limit


class Deep(MoveError):
    """Lists are more than this deep within one another."""

    def __init__(self, limit):
        self.limit = limit


class NotLast(MoveError):
    """The leave at this address is not the last row of its list."""

    def __init__(self, address):
        self.address = address


class Twice(MoveError):
    """This name is made twice, or made and an input."""

    def __init__(self, name):
        self.name = name


class Unseen(MoveError):
    """The row at this address uses this name, which is not in sight there."""

    def __init__(self, address, name):
        self.address = address
        self.name = name


class Wide(MoveError):
    """This name has too many trees, or one that is too large."""

    def __init__(self, name):
        self.name = name


class NoRow(MoveError):
    """This is the address of no row that is meant."""

    def __init__(self, address):
        self.address = address


class NoGap(MoveError):
    """This is no gap of the program."""

    def __init__(self, gap):
        self.gap = gap


class NoName(MoveError):
    """This is no name of the program."""

    def __init__(self, name):
        self.name = name


class Inside(MoveError):
    """This gap is in a list of the row that is to be moved there."""

    def __init__(self, gap):
        self.gap = gap


class NoFork(MoveError):
    """This is no fork that some choices come to."""

    def __init__(self, at):
        self.at = at


class NoWord(MoveError):
    """This word may not be chosen here."""

    def __init__(self, word):
        self.word = word


class BadChoices(MoveError):
    """The choices are wrong at this index."""

    def __init__(self, at):
        self.at = at


class Unlike(MoveError):
    """The skeletons or the inputs of two programs are not the same."""


class NoLags(MoveError):
    """The lags of two programs do not stand."""


class TooMany(MoveError):
    """There are more than this many."""

    def __init__(self, most):
        self.most = most


class Parted(MoveError):
    """Two programs are parted by these choices and these bad results."""

    def __init__(self, road, bad):
        self.road = road
        self.bad = bad


class NoPair(MoveError):
    """This is no pair of rows that can be joined."""

    def __init__(self, pair):
        self.pair = pair


class BadDeeds(MoveError):
    """This is no list of deeds that can be done at once."""


class BadStep(MoveError):
    """This is no step from the program."""

    def __init__(self, step):
        self.step = step


class NoDeed(MoveError):
    """This is no deed."""


class Refused(MoveError):
    """This deed would not lead to a program."""

    def __init__(self, deed):
        self.deed = deed


class Nothing(MoveError):
    """There is nothing to take back or to do again."""


class NoEntry(MoveError):
    """A log has no so many deeds."""

    def __init__(self, many):
        self.many = many


class NoText(MoveError):
    """This is no text of such a thing."""


class NoCommand(MoveError):
    """This is no command."""

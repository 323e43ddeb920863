"""The errors of the whole package.

Each class keeps what it is made with in attributes of the names of its
parameters. The four base classes, and NothingToUndo, keep nothing.
"""


class EachError(ValueError):
    """A value that the document does not let stand where it stands."""


class InvalidName(EachError):
    """A value that is no NAME."""

    def __init__(self, value):
        self.value = value


class InvalidCount(EachError):
    """A value that is no COUNT, or none that is let there."""

    def __init__(self, value):
        self.value = value


class InvalidNumber(EachError):
    """A value that is no INTEGER of at least 1."""

    def __init__(self, value):
        self.value = value


class InvalidMany(EachError):
    """A value that is no Many, or the numbers of none."""

    def __init__(self, value):
        self.value = value


class InvalidRatio(EachError):
    """A value that is no Ratio, or none that is let there."""

    def __init__(self, value):
        self.value = value


class InvalidKinds(EachError):
    """Kinds of which the one at this position is wrong; None: all of them."""

    def __init__(self, position):
        self.position = position


class InvalidLink(EachError):
    """A link of a model with wrong ends; None: the links are no such dict."""

    def __init__(self, value):
        self.value = value


class InvalidEnd(EachError):
    """A value that is neither "near" nor "far"."""

    def __init__(self, value):
        self.value = value


class InvalidModel(EachError):
    """A value that is no Model."""

    def __init__(self, value):
        self.value = value


class InvalidTotal(EachError):
    """A value that is no total of a table."""

    def __init__(self, value):
        self.value = value


class InvalidPair(EachError):
    """A value that is no number or place of a pair."""

    def __init__(self, value):
        self.value = value


class InvalidRow(EachError):
    """A value that is no row."""

    def __init__(self, value):
        self.value = value


class InvalidPairs(EachError):
    """Pairs of this link of which the one at this position is wrong."""

    def __init__(self, link, position):
        self.link = link
        self.position = position


class InvalidDatabase(EachError):
    """A value that is no Database of an equal model."""

    def __init__(self, value):
        self.value = value


class InvalidWay(EachError):
    """A value that is no way from the kind."""

    def __init__(self, value):
        self.value = value


class InvalidSizes(EachError):
    """A value that is no sizes, or none that are let there."""

    def __init__(self, value):
        self.value = value


class InvalidTold(EachError):
    """A value that is no Told."""

    def __init__(self, value):
        self.value = value


class InvalidText(EachError):
    """A text of which this line is wrong; None: it is no string."""

    def __init__(self, line):
        self.line = line


class InvalidClaim(EachError):
    """A value that is no claim."""

    def __init__(self, value):
        self.value = value


class InvalidCommand(EachError):
    """A value that is no command of a desk."""

    def __init__(self, value):
        self.value = value


class EmptyBy(EachError):
    """What an Empty is raised from: the paper that shows that a kind is empty."""

    def __init__(self, paper):
        self.paper = paper


class MissingError(LookupError):
    """A name that stands for nothing."""


class UnknownKind(MissingError):
    """A value that is no kind of the model."""

    def __init__(self, value):
        self.value = value


class UnknownLink(MissingError):
    """A value that is no link of the model."""

    def __init__(self, value):
        self.value = value


class UnknownRow(MissingError):
    """A value that is no told row."""

    def __init__(self, value):
        self.value = value


class UnknownThing(MissingError):
    """A value that is no name of such a thing on the desk."""

    def __init__(self, value):
        self.value = value


class StateError(RuntimeError):
    """Values that are right by themselves, but not together or not now."""


class Apart(StateError):
    """Two things that can't be taken together."""

    def __init__(self, one, other):
        self.one = one
        self.other = other


class Taken(StateError):
    """A name, or a row, that is in use already."""

    def __init__(self, value):
        self.value = value


class Empty(StateError):
    """A kind that has to be full, but is empty, as the paper shows."""

    def __init__(self, kind, paper):
        self.kind = kind
        self.paper = paper


class NotLet(StateError):
    """Sizes that are not let: the first gap of them."""

    def __init__(self, link, line):
        self.link = link
        self.line = line


class Lacking(StateError):
    """A Told without a completion, as the obstacle shows."""

    def __init__(self, obstacle):
        self.obstacle = obstacle


class NothingToUndo(StateError):
    """No command is left that could be taken back."""


class CommandFailed(StateError):
    """Commands of which the one at this position raised an error."""

    def __init__(self, position):
        self.position = position


class LimitError(ArithmeticError):
    """More than the package lets."""


class TooMany(LimitError):
    """More of something than this limit."""

    def __init__(self, what, limit):
        self.what = what
        self.limit = limit

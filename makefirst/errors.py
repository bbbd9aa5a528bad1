"""The errors that the functions of this package raise."""


class BatchError(ValueError):
    """What all errors but those of unknown kinds, cells and checks are derived from."""


class BadBook(BatchError):
    """A book cannot be made: its columns are wrong (-1), or the check of a number."""

    def __init__(self, at):
        self.at = at


class BadStore(BatchError):
    """A store cannot be made: its cells are wrong (-1), or the laid check of a number."""

    def __init__(self, at):
        self.at = at


class BadState(BatchError):
    """A value is no state: no sequence of one item a cell (-1), or the item of a cell is wrong."""

    def __init__(self, at):
        self.at = at


class BadText(BatchError):
    """A value is no text (0), or the line of a number, from 1, is wrong."""

    def __init__(self, at):
        self.at = at


class Refused(BatchError):
    """A value is not such as is asked for."""

    def __init__(self, at):
        self.at = at


class TooGreat(BatchError):
    """There is more of something than a search was told to look at, or than there may be."""

    def __init__(self, most):
        self.most = most


class Knotted(BatchError):
    """Some kinds are a knot: none of them can go first."""

    def __init__(self, kinds):
        self.kinds = kinds


class NoKind(KeyError):
    """A value is no kind of the book."""

    def __init__(self, kind):
        self.kind = kind


class NoCell(KeyError):
    """A value is no cell of the store."""

    def __init__(self, cell):
        self.cell = cell


class NoCheck(KeyError):
    """A value is no check's number."""

    def __init__(self, check):
        self.check = check

"""The errors of the package."""


class LayError(ValueError):
    """The base class of all errors of the package."""


class BadTable(LayError):
    """A value is no table; index tells the first thing of it that is wrong."""

    def __init__(self, index):
        super().__init__(f"no table: {index}")
        self.index = index


class BadRow(LayError):
    """A value is no row with as many heaps as those of a table."""


class BadPerson(LayError):
    """A value is no person of a table."""


class BadGood(LayError):
    """A value is no good of a table."""


class BadLays(LayError):
    """A value is no tuple of lays; index tells the first bad one."""

    def __init__(self, index):
        super().__init__(f"no lays: {index}")
        self.index = index


class BadOrder(LayError):
    """A value is no order of people."""


class BadGoods(LayError):
    """A value is no order of goods."""


class BadHeaps(LayError):
    """A value tells no heaps; index tells the first thing of it that is wrong."""

    def __init__(self, index):
        super().__init__(f"no told heaps: {index}")
        self.index = index


class BadLevels(LayError):
    """A value is no tuple of levels."""


class BadNumber(LayError):
    """A value is no number within its bounds."""


class NotTwo(LayError):
    """One person, or one good, is told twice."""


class Alone(LayError):
    """There is no other person, or no other good."""


class NotLike(LayError):
    """Tables are not like."""


class NotOver(LayError):
    """A row is not over another one."""


class BadText(LayError):
    """A value is no string."""


class InvalidText(LayError):
    """A word of a text cannot stand."""

    def __init__(self, line, word):
        super().__init__(f"line {line}, word {word} cannot stand")
        self.line = line
        self.word = word


class BadLine(LayError):
    """A word of a line cannot stand."""

    def __init__(self, word):
        super().__init__(f"word {word} cannot stand")
        self.word = word


class NothingToUndo(LayError):
    """No line is left that can be taken back."""


class TooMany(LayError):
    """There are more things than are allowed."""

    def __init__(self, most):
        super().__init__(f"more than {most}")
        self.most = most

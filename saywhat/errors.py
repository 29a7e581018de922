"""The errors of this package, one class for each kind of failure."""


class SayError(ValueError):
    """Any error that this package raises on purpose."""


class BadMatter(SayError):
    """A value is no matter; part names the first wrong part, None if the value is no Matter at all."""

    def __init__(self, part=None):
        super().__init__(f"this is not a matter, part: {part}")
        self.part = part


class BadTable(SayError):
    """A value is no table for its matter."""


class BadActs(SayError):
    """A value is no set of acts of its matter."""


class BadGoal(SayError):
    """A value is no goal."""


class TooLarge(SayError):
    """There are more cases, plans or readings than are looked at."""


class BadSigns(SayError):
    """A value is no signs for its matter."""


class BadWords(SayError):
    """A value is no allowed words for its matter."""


class BadSplit(SayError):
    """A value is no split of the cases of its matter."""


class BadDraw(SayError):
    """A value is no draw of its session."""


class NothingDone(SayError):
    """There is nothing to undo."""


class BadDraws(SayError):
    """A value is no draws; index tells the first wrong one, None if they are no short list or tuple."""

    def __init__(self, index=None):
        super().__init__(f"these are not draws, index: {index}")
        self.index = index


class BadText(SayError):
    """A text cannot be read; row tells the first wrong line."""

    def __init__(self, row=0):
        super().__init__(f"this text cannot be read, row: {row}")
        self.row = row

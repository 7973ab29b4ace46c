"""The refusals. They stand beside one another, so that taking one never takes another."""


class PointError(ValueError):
    """Any refusal."""


class TooGreat(PointError):
    """The told facts would be too many."""


class NoFact(PointError):
    """The fact is not told, so it has no paper."""


class NoRow(PointError):
    """The row, or a word or number of it, is none."""


class NoProgram(PointError):
    """The text is no program; line is the number of its first wrong row, from 0."""

    def __init__(self, line):
        PointError.__init__(self, f"no program: row {line}")
        self.line = line


class NoChange(PointError):
    """The change, kept in the field of this name, is refused."""

    def __init__(self, change):
        PointError.__init__(self, f"no change: {change!r}")
        self.change = change

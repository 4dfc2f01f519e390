"""The errors of the package."""


class FromrunsError(ValueError):
    """The base class of all errors of the package."""


class NotClosed(FromrunsError):
    """A machine is not k-closed; fault is a corner that shows it."""

    def __init__(self, fault):
        super().__init__("the machine is not closed")
        self.fault = fault


class Clash(FromrunsError):
    """The closure of the seen runs has a barred run."""

    def __init__(self, run):
        super().__init__("seen and barred runs clash")
        self.run = run


class KnownRun(FromrunsError):
    """The run is among the seen or the barred runs."""

    def __init__(self, run):
        super().__init__("the run is known")
        self.run = run


class UnknownRun(FromrunsError):
    """The run is neither among the seen nor among the barred runs."""

    def __init__(self, run):
        super().__init__("the run is not known")
        self.run = run


class NothingToUndo(FromrunsError):
    """Every deed is taken back."""


class BadMerge(FromrunsError):
    """A merge of a log is not allowed; position counts the merges from 0."""

    def __init__(self, position):
        super().__init__("a merge is not allowed")
        self.position = position


class BadLine(FromrunsError):
    """A line of a text has no valid form; line counts the lines from 1."""

    def __init__(self, line):
        super().__init__("a line has no valid form")
        self.line = line


class BadText(FromrunsError):
    """The lines of a text are valid, but it is not the text of a machine."""


class BadPattern(FromrunsError):
    """A text is not a pattern; position is its bad place."""

    def __init__(self, position):
        super().__init__("the text is not a pattern")
        self.position = position


class UnknownCase(FromrunsError):
    """No open case has the name."""

    def __init__(self, case):
        super().__init__("no open case has the name")
        self.case = case


class OpenCase(FromrunsError):
    """There is an open case of the name."""

    def __init__(self, case):
        super().__init__("a case of the name is open")
        self.case = case

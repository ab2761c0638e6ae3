"""The errors that the functions and classes of this package raise."""


class FitError(ValueError):
    """What all errors of this package have in common."""


class BadLot(FitError):
    """Not a lot; `part` names the first wrong parameter of a new lot, and is None for anything else."""

    def __init__(self, part):
        super().__init__(f"not a lot, wrong part: {part}")
        self.part = part


class BadState(FitError):
    """Not a state of the lot."""


class BadMany(FitError):
    """Not a number of pairs from 1 to 3."""


class BadTest(FitError):
    """Not a test that is possible in the state."""


class TooLarge(FitError):
    """The state has more states below it than are looked through."""


class FullLot(FitError):
    """The lot has as many gauges as a lot can have."""


class BadPosition(FitError):
    """Not a position of the lot."""


class BadFee(FitError):
    """Not a fee for a grind."""


class BadInspector(FitError):
    """Not the word for an inspector."""


class BadSizes(FitError):
    """Not a size for each part, within its range."""


class NothingDone(FitError):
    """There is no test that can be undone."""


class BadTests(FitError):
    """Not tests that can be made in turn; `index` is that of the first wrong one, None if there is no list."""

    def __init__(self, index):
        super().__init__(f"not tests that can be made in turn, wrong index: {index}")
        self.index = index


class BadLog(FitError):
    """Not a log from the state; `index` is that of the first wrong pair, None if there is no list."""

    def __init__(self, index):
        super().__init__(f"not a log from the state, wrong index: {index}")
        self.index = index


class BadText(FitError):
    """Not a text that can be read; `row` is the index of the first wrong line."""

    def __init__(self, row):
        super().__init__(f"not a text that can be read, wrong row: {row}")
        self.row = row

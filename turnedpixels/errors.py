"""The errors of the package, each directly under TurnError."""


class TurnError(ValueError):
    """The error above all others of the package."""


class InvalidPixels(TurnError):
    """No picture; index is that of the first wrong item, or None."""

    def __init__(self, index):
        super().__init__(f"no picture, wrong at {index}")
        self.index = index


class InvalidChain(TurnError):
    """No chain; index is that of the first item that is no step, or None."""

    def __init__(self, index):
        super().__init__(f"no chain, wrong at {index}")
        self.index = index


class InvalidWay(TurnError):
    """No way; index is that of the first item that is no turn that keeps all, or None."""

    def __init__(self, index):
        super().__init__(f"no way, wrong at {index}")
        self.index = index


class InvalidText(TurnError):
    """Not the text that is asked for; place is the index of the first wrong word, or None."""

    def __init__(self, place):
        super().__init__(f"not such a text, wrong at word {place}")
        self.place = place


class TooLarge(TurnError):
    """Something is above its limit."""

    def __init__(self, limit):
        super().__init__(f"greater than {limit}")
        self.limit = limit


class Lost(TurnError):
    """So many pixels would be lost."""

    def __init__(self, number):
        super().__init__(f"pixels that would be lost: {number}")
        self.number = number


class InvalidTurn(TurnError):
    """No turn."""


class InvalidLegs(TurnError):
    """No legs."""


class InvalidPixel(TurnError):
    """No pixel."""


class InvalidRest(TurnError):
    """No rest of the turn."""


class InvalidOrder(TurnError):
    """Neither of the two orders of shears."""


class InvalidMatrix(TurnError):
    """No matrix."""


class InvalidScale(TurnError):
    """No scale."""


class InvalidSix(TurnError):
    """No six-cornered turn."""


class InvalidNumber(TurnError):
    """No integer from 0 on, or one that is too great."""


class InvalidCommand(TurnError):
    """No command of the console."""


class KeepsAll(TurnError):
    """The turn has no loss that could be shown."""


class NothingToUndo(TurnError):
    """No deed is left to be taken back."""

"""The refusals. Their words are fixed where they are raised, so they tell nothing of what was handed in."""


class DanceError(ValueError):
    pass


class BadWord(DanceError):
    pass


class BadFraction(DanceError):
    pass


class BadStep(DanceError):
    pass


class Same(DanceError):
    pass


class BadText(DanceError):
    pass

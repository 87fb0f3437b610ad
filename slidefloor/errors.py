"""The refusals of the program."""


class SlideError(ValueError):
    """Any refusal."""


class BadFloor(SlideError):
    """What was handed in is no floor."""


class BadStanding(SlideError):
    """What was handed in is no standing of the floor."""


class BadMove(SlideError):
    """What was handed in is no move, or one that can't be done."""


class BadNumber(SlideError):
    """What was handed in is no number that will do here."""


class BadText(SlideError):
    """What was handed in is no text of a standing."""


class TooMany(SlideError):
    """The floor has too many places for what is asked."""


class NothingDone(SlideError):
    """There is no move to take back."""

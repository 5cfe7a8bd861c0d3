"""The refusals: each stands under WantError alone, none under another."""


class WantError(ValueError):
    """Whatever this program refuses."""


class BadName(WantError):
    """No name or beginning, or none that is there."""


class BadSides(WantError):
    """No list of unlike sides, or none that may stand here."""


class BadNumber(WantError):
    """No whole number within its bounds."""


class BadLetter(WantError):
    """No letter."""


class NoHouse(WantError):
    """No house of this net."""


class NoWay(WantError):
    """No way between these two."""


class NoLetter(WantError):
    """No letter on this way."""


class Gone(WantError):
    """A house that is gone was to do something."""

    def __init__(self, house):
        self.house = house


class BadStory(WantError):
    """No story, or no text of one."""

"""The refusals that the program tells."""


class TimesError(ValueError):
    """What was handed in is refused."""


class BadPair(TimesError):
    """It is no pair."""


class BadPairs(TimesError):
    """It is no list of pairs."""


class BadTaking(TimesError):
    """It is no taking of the pair."""


class BadRow(TimesError):
    """It is no row, or no number beside a row."""

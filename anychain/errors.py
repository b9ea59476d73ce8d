"""The errors that the program raises."""


class AnychainError(ValueError):
    """The base class of all errors that the program raises."""


class InvalidBook(AnychainError):
    """A value is not a book that is valid for the signs."""


class BadStep(AnychainError):
    """A step does not fit the word that it is applied to."""


class InvalidMachine(AnychainError):
    """A value is not a machine, or it is not in least form."""


class InvalidNet(AnychainError):
    """A value is not a net, or not a writing net."""


class InvalidTranslator(AnychainError):
    """A value is not a translator."""


class InvalidSeal(AnychainError):
    """A value is not a seal table."""


class Mismatch(AnychainError):
    """Two arguments do not agree with each other."""


class TooLong(AnychainError):
    """A result would be too long, too large or too deep."""


class Confused(AnychainError):
    """A book confuses the letters of a coder."""


class NotSettling(AnychainError):
    """A seal table is not settling."""


class Endless(AnychainError):
    """A run of a relay has no end."""


class BadLetter(AnychainError):
    """A text or a tree is not of its form; `place` tells where."""

    def __init__(self, message="", place=0):
        AnychainError.__init__(self, message)
        self.place = place


class UnknownName(AnychainError):
    """Nothing ready has this name."""


class NoHistory(AnychainError):
    """There is no change to take back."""

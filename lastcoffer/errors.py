"""The exceptions of the program."""


class CofferError(ValueError):
    """The base class of all exceptions that the program raises."""


class BadSpread(CofferError):
    """A list is no spread."""


class BadHouse(CofferError):
    """A damage, a treaty or a house is not valid."""


class OutOfRange(CofferError):
    """A number, an index or a list lies beyond its bounds."""


class TooLong(CofferError):
    """Too much would have to be computed or written."""


class BadCommand(CofferError):
    """A command to the desk is malformed."""

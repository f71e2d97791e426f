"""The exceptions that the program raises."""


class LightError(ValueError):
    """The base class of all exceptions of the program."""


class BadNet(LightError):
    """A net or a task is not valid."""


class BadState(LightError):
    """A state or a place is not one of its net or task."""


class OutOfRange(LightError):
    """A number or a list is not within its limits."""


class NotAllowed(LightError):
    """A step or a fault is not possible where it is asked for."""


class TooLong(LightError):
    """Too many places would have to be looked at."""


class BadCommand(LightError):
    """A command of the desk is not well formed."""

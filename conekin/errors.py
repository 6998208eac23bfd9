"""The refusals: one base, and the others each straight under it."""


class KinError(ValueError):
    """Any refusal."""


class NoBasis(KinError):
    """A table whose determinant is neither 1 nor -1."""


class NoForm(KinError):
    """A thing that is no form."""


class TooGreat(KinError):
    """A form whose half determinant is above the bound."""


class NoWorth(KinError):
    """A thing that is no worth within the bounds."""


class NoPrime(KinError):
    """A thing that is no prime of the form."""


class NoLine(KinError):
    """A thing that is no line of the form and the prime."""


class NoStep(KinError):
    """A table that is no step."""


class NoText(KinError):
    """A text that is not written as forms are."""


class NoRow(KinError):
    """A row that the desk can not read."""


class NoName(KinError):
    """A name under which nothing is kept."""

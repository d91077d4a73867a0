"""The errors that the program raises."""


class AccessError(ValueError):
    """The base class of all errors that the program raises."""


class InvalidRequest(AccessError):
    """The values that were given do not make a request."""


class InvalidCondition(AccessError):
    """The condition is not valid."""


class InvalidRule(AccessError):
    """The name or the effect of the rule is wrong."""


class BadText(AccessError):
    """The text cannot be read; line and column tell the first token that does not fit."""

    def __init__(self, line, column):
        AccessError.__init__(self, f"line {line}, column {column}: this does not fit")
        self.line = line
        self.column = column


class Circle(AccessError):
    """The link would make a word belong to itself."""


class AlreadyLinked(AccessError):
    """The link is there already."""


class NotLinked(AccessError):
    """The link is not there."""


class NoGrant(AccessError):
    """No such grant."""


class NoPasses(AccessError):
    """The grant may not be passed on."""


class NoRule(AccessError):
    """No such rule."""


class NothingToUndo(AccessError):
    """No deed is left that could be undone."""


class NothingToRedo(AccessError):
    """No undone deed is left that could be carried out again."""


class Widening(AccessError):
    """The deed would permit the request, which was refused before."""

    def __init__(self, request):
        AccessError.__init__(self, "the deed would permit a request that was refused before")
        self.request = request

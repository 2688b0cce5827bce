"""The refusals. All stand straight under TraitError, so that each can be taken by itself."""


class TraitError(ValueError):
    """Any refusal."""


class BadText(TraitError):
    """A line is not of the form that is asked for."""

    def __init__(self, line):
        self.line = line


class Twice(TraitError):
    """A name stands where it stood before."""

    def __init__(self, line):
        self.line = line


class TooLarge(TraitError):
    """There are more columns or things than a table may have."""

    def __init__(self, line):
        self.line = line


class Unknown(TraitError):
    """A word is no column's name."""

    def __init__(self, word):
        self.word = word


class Gap(TraitError):
    """A thing has a cell whose worth is not known."""

    def __init__(self, thing):
        self.thing = thing


class AtEnd(TraitError):
    """A talk asks nothing more."""


class BadSet(TraitError):
    """A set has members that are not there."""


class NotBroken(TraitError):
    """A row does not break the rule asked."""


class Against(TraitError):
    """A row breaks a rule that was said yes to."""


class OutOfPlace(TraitError):
    """A place is not there."""


class Unlike(TraitError):
    """Two tables differ where they must be the same."""

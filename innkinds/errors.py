"""The refusals of the inn."""


class InnError(ValueError):
    """Any refusal."""


class BadHouse(InnError):
    """The counts are no house."""


class BadSpan(InnError):
    """The nights and the kind are no span of the house."""


class Full(InnError):
    """A kind is short on a night (None where no night is told)."""

    def __init__(self, night, kind):
        super().__init__(f"kind {kind} is short (night: {night})")
        self.night = night
        self.kind = kind


class NoPromise(InnError):
    """There is no promise of that number."""


class NoClosing(InnError):
    """There is no closing of that number."""


class NoWayBack(InnError):
    """There is no deed to take back."""

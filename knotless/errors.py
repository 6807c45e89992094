"""The refusals of the program."""


class KnotError(ValueError):
    """Any refusal."""


class BadTown(KnotError):
    """What is told makes no town."""


class NoHouse(KnotError):
    """There is no such house."""


class NoGroup(KnotError):
    """There is no such group."""


class NoWire(KnotError):
    """There is no such rope or wire, or it is already as it was to become."""


class NoCaller(KnotError):
    """There is no such caller."""


class Apart(KnotError):
    """The two callers are of unlike groups."""


class NoCopy(KnotError):
    """No copy flies at that place."""


class NoLetter(KnotError):
    """There is no such letter."""


class NoText(KnotError):
    """The text is not of the form that is read."""

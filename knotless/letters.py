"""Letters: who sends them, for whom they are meant, and whom they seek."""


class Letter:
    """The bare letter, meant for none: the base of those that are."""

    def __init__(self, sender):
        self.sender = sender

    def meant(self, caller):
        """True where the letter is meant for the caller, else False."""
        return False

    def seeks(self):
        """The one caller that the letter seeks, or None."""
        return None

    def number(self):
        """The number by which a rope's wire is told for the letter."""
        return self.sender


class ToOne(Letter):
    """A letter to one caller, perhaps the sender."""

    def __init__(self, sender, to):
        Letter.__init__(self, sender)
        self.to = to

    def meant(self, caller):
        return caller == self.to

    def seeks(self):
        return self.to

    def number(self):
        return self.sender + self.to + 1


class ToAll(Letter):
    """A letter to all but its sender."""

    def meant(self, caller):
        return caller != self.sender

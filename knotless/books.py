"""Books: notes of the rope by which a caller is come to from a house."""


class Book:
    """For a house and a caller one rope at most."""

    def __init__(self):
        self.kept = {}

    def learn(self, house, caller, rope):
        """Makes a note, in the place of an earlier one for the same two."""
        self.kept[(house, caller)] = rope

    def known(self, house, caller):
        """The noted rope, or None."""
        return self.kept.get((house, caller))

    def notes(self):
        """The tuples (house, caller, rope), sorted."""
        return sorted([noted + (rope,) for noted, rope in self.kept.items()])

    def forget(self):
        self.kept = {}

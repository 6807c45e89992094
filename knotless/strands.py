"""Strands: which wires of a town's ropes stand."""

from knotless.errors import NoGroup, NoWire
from knotless.towns import GROUP_BITS


class Strands:
    """The wires of each rope that stand, at first all."""

    def __init__(self, town):
        self.town = town
        self.upright = [list(range(wires_of(town, rope))) for rope in range(town.many)]

    def fall(self, rope, wire):
        """True where the rope stands no more behind it, else False."""
        ahead = self.standing(rope)
        if wire not in ahead:
            raise NoWire("no such wire stands")
        self.upright[rope] = [each for each in ahead if each != wire]
        return self.upright[rope] == []

    def lay(self, rope, wire):
        """True where the rope did not stand ahead of it, else False."""
        ahead = self.standing(rope)
        if not 0 <= wire < wires_of(self.town, rope) or wire in ahead:
            raise NoWire("no such wire has fallen")
        self.upright[rope] = sorted(ahead + [wire])
        return ahead == []

    def standing(self, rope):
        """The wires of a rope that stand, rising."""
        # A list would take a number below 0 and count from its end, so that is asked first.
        if not 0 <= rope < self.town.many:
            raise NoWire("there is no such rope")
        return list(self.upright[rope])

    def wire_for(self, rope, number):
        """The wire that a number falls to among those that stand, or None."""
        stand = self.standing(rope)
        if stand == []:
            return None
        return stand[number % len(stand)]

    def live(self, group):
        """The ropes that stand and let a group, rising."""
        check_group(group)
        return [rope for rope in range(self.town.many) if self.upright[rope] and self.town.lets(rope, group)]


def wires_of(town, rope):
    return town.rope(rope)[3]


def check_group(group):
    if not 0 <= group < len(GROUP_BITS):
        raise NoGroup("there is no such group")

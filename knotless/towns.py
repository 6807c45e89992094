"""Towns: named houses, and the ropes that join them."""

from knotless.errors import BadTown

MOST_HOUSES = 10
MOST_ROPES = 20
MOST_WIRES = 4
GROUP_BITS = (1, 2, 4)
ALL_GROUPS = 7


class Town:
    """Houses and ropes, each numbered from 0, that stay as they were told."""

    def __init__(self, names, ropes):
        check_names(names)
        check_ropes(len(names), ropes)
        # Copies, so that the lists handed in stay the asker's own.
        self.house_names = list(names)
        self.rope_tuples = list(ropes)
        self.size = len(names)
        self.many = len(ropes)

    def name(self, house):
        return self.house_names[house]

    def rope(self, number):
        return self.rope_tuples[number]

    def ropes_at(self, house):
        return [number for number, rope in enumerate(self.rope_tuples) if house in (rope[0], rope[1])]

    def far_end(self, rope, house):
        ends = self.rope_tuples[rope]
        return ends[1] if house == ends[0] else ends[0]

    def lets(self, rope, group):
        return self.rope_tuples[rope][4] & GROUP_BITS[group] != 0


def check_names(names):
    if not 1 <= len(names) <= MOST_HOUSES:
        raise BadTown(f"a town has 1 to {MOST_HOUSES} houses")
    if min(names) < 0:
        raise BadTown("a name is a number from 0 on")
    if len(set(names)) != len(names):
        raise BadTown("no two houses have the same name")


def check_ropes(size, ropes):
    if len(ropes) > MOST_ROPES:
        raise BadTown(f"a town has at most {MOST_ROPES} ropes")
    for rope in ropes:
        check_rope(size, rope)


def check_rope(size, rope):
    if len(rope) != 5:
        raise BadTown("a rope is told by one, other, cost, wires and lets")
    if not joins_two(size, rope[0], rope[1]):
        raise BadTown("a rope joins two unlike houses of the town")
    if rope[2] < 1:
        raise BadTown("a rope's cost is a number from 1 on")
    if not 1 <= rope[3] <= MOST_WIRES:
        raise BadTown(f"a rope has 1 to {MOST_WIRES} wires")
    if not 1 <= rope[4] <= ALL_GROUPS:
        raise BadTown(f"a rope's groups are told by a number from 1 to {ALL_GROUPS}")


def joins_two(size, one, other):
    return 0 <= one < size and 0 <= other < size and one != other

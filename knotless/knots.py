"""What pairs of houses make: the parts, the ways and the knots."""


def parts(size, pairs):
    """For each house the least house that pairs lead to from it."""
    joined = joined_by(pairs)
    least = {}
    for house in range(size):
        # Houses are walked rising, so the first to come to a part is its least.
        if house not in least:
            for met in reached(joined, house):
                least[met] = house
    return [least[house] for house in range(size)]


def way(size, pairs, one, other):
    """The pairs that lead from one house to another, no house twice, or None."""
    # The size is not asked: only houses of pairs are walked, so a vast one costs nothing.
    # Walked from the other end, so that the steps back come in the way's own order.
    steps = reached(joined_by(pairs), other)
    if one not in steps:
        return None
    found = []
    house = one
    while house != other:
        step = steps[house]
        found.append(step[0])
        house = step[1]
    return found


def knot(size, pairs):
    """Tuples (house, pair) that lead round to the first house, or None."""
    # A pair closes a knot just where the pairs ahead of it join its houses already.
    for number, pair in enumerate(pairs):
        found = way(size, pairs[:number], pair[0], pair[1])
        if found is not None:
            return with_houses(pairs, pair[0], found + [number])
    return None


def joined_by(pairs):
    """For each house of a pair the list of its tuples (pair, the house at its other end)."""
    joined = {}
    for number, pair in enumerate(pairs):
        joined.setdefault(pair[0], []).append((number, pair[1]))
        joined.setdefault(pair[1], []).append((number, pair[0]))
    return joined


def reached(joined, start):
    """For each house led to its step back towards the start, (pair, house); None for the start."""
    steps = {start: None}
    waiting = [start]
    while waiting:
        house = waiting.pop()
        for number, other in joined.get(house, []):
            if other not in steps:
                steps[other] = (number, house)
                waiting.append(other)
    return steps


def with_houses(pairs, first, numbers):
    """Each pair of a walk that begins at the first house, with the house that it leads from."""
    walked = []
    house = first
    for number in numbers:
        walked.append((house, number))
        pair = pairs[number]
        house = pair[1] if house == pair[0] else pair[0]
    return walked

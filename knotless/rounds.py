"""Rounds: houses that are called one after another, and the rows behind that."""

from knotless.rows import due, own_row


def called(town, live, rows, calls):
    """The rows behind the calls, each by the rows behind the one ahead."""
    held = list(rows)
    for house in calls:
        held[house] = due(town, live, held, house)
    return held


def rounds(size, calls):
    """How many times over, one behind another, the calls name each house."""
    counted = 0
    named = {}
    for house in calls:
        named[house] = True
        if len(named) == size:
            counted += 1
            named = {}
    return counted


def settled(town, live):
    """The rows at rest, of which there is just one list."""
    houses = list(range(town.size))
    own = [own_row(town, house) for house in houses]
    # Twice as many rounds as houses bring any rows to rest, so it is all one where they begin.
    return called(town, live, own, houses * (2 * town.size))

"""Rows: tuples (head, cost, hops, by) that tell what a house holds of a head."""


def own_row(town, house):
    return (town.name(house), 0, 0, None)


def offer(town, row, rope):
    """The row that a row makes over a rope, or None where its hops would not be below the number of houses."""
    hops = row[2] + 1
    # Asked ahead of the rope, since a town of one house has none to look at.
    if hops >= town.size:
        return None
    return (row[0], row[1] + town.rope(rope)[2], hops, rope)


def due(town, live, rows, house):
    """The least of a house's own row and the offers over its live ropes."""
    least = own_row(town, house)
    for rope in town.ropes_at(house):
        if rope in live:
            made = offer(town, rows[town.far_end(rope, house)], rope)
            # The by is left out: ropes are walked rising, so of like offers the first has the least,
            # and the own row's None is never held against a number.
            if made is not None and made[:3] < least[:3]:
                least = made
    return least


def resting(town, live, rows):
    """True where each house's row is its due."""
    return all([rows[house] == due(town, live, rows, house) for house in range(town.size)])

"""Open ropes: those by which a house hangs on another one."""

from knotless.rows import offer


def ups(town, live, rows):
    """For each house the tuple (rope, the house on which it hangs), or None."""
    return [up_of(town, live, rows, house) for house in range(town.size)]


def opens(town, live, rows):
    """The open ropes, rising."""
    # No rope comes twice: of its two houses the one that hangs by it has more hops.
    return sorted([up[0] for up in ups(town, live, rows) if up is not None])


def open_at(town, live, rows, house):
    """The open ropes of a house, rising."""
    joined = town.ropes_at(house)
    return [rope for rope in opens(town, live, rows) if rope in joined]


def up_of(town, live, rows, house):
    rope = rows[house][3]
    # A stale row may name a rope that is no longer live, or never was the house's.
    if rope not in live or rope not in town.ropes_at(house):
        return None
    other = town.far_end(rope, house)
    if offer(town, rows[other], rope) != rows[house]:
        return None
    return (rope, other)

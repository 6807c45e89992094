"""Routes: where open ropes lead."""

from knotless.knots import way
from knotless.opens import opens, ups


def up_way(town, live, rows, house):
    """The houses from a house on, each hanging on the next one, to the first that hangs on none."""
    return [house] + [up[1] for up in climbed(ups(town, live, rows), house)]


def route(town, live, rows, one, other):
    """The open ropes that lead from one house to another, no house twice, or None."""
    ropes = opens(town, live, rows)
    found = way(town.size, [town.rope(rope)[:2] for rope in ropes], one, other)
    if found is None:
        return None
    return [ropes[number] for number in found]


def beyond(town, live, rows, rope):
    """The houses whose up way leads over a rope, rising."""
    hung = ups(town, live, rows)
    return [house for house in range(town.size) if leads_over(hung, house, rope)]


def climbed(hung, house):
    """The tuples (rope, house) of a house's up way, in its order."""
    steps = []
    up = hung[house]
    # This ends whatever the rows are, since hops lessen with each step.
    while up is not None:
        steps.append(up)
        up = hung[up[1]]
    return steps


def leads_over(hung, house, rope):
    return rope in [up[0] for up in climbed(hung, house)]

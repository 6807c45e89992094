"""Made towns and rows for the tests, and what the document's words say of them, found without the program."""

from knotless.towns import Town

VAST = 10 ** 60 - 1


def made_town(made, most=10):
    """A town with low costs, so that ways tie often, or with vast ones; some names below are left free."""
    size = made.randint(1, most)
    names = made.sample(range(3, 40), size)
    if made.random() < 0.2:
        names[made.randrange(size)] = VAST
    top = made.choice([1, 2, 5, VAST])
    many = made.randint(0, 20) if size > 1 else 0
    ropes = [tuple(made.sample(range(size), 2)) + (made.randint(1, top), made.randint(1, 4), made.randint(1, 7))
             for number in range(many)]
    return Town(names, ropes)


def made_live(made, town):
    share = made.choice([0, 0.3, 0.7, 1])
    return [rope for rope in range(town.many) if made.random() < share]


def made_rows(made, town):
    """Any rows: heads of houses and of none, and ropes that may not be the house's."""
    heads = [0, 1, 2, VAST, made.randrange(40)] + [town.name(house) for house in range(town.size)]
    top = made.choice([0, 2, 9, VAST])
    return [(made.choice(heads), made.randint(0, top), made.randrange(town.size),
             made.choice([None] + list(range(town.many))))
            for house in range(town.size)]


def half_right_rows(made, town, live):
    """Rows of which many are just what a neighbour offers, so that houses hang, rightly or not."""
    rows = made_rows(made, town)
    for turn in range(2 * town.size):
        house = made.randrange(town.size)
        offers = offers_to(town, live, rows, house)
        if offers:
            rows[house] = made.choice(offers)
    return rows


def made_calls(made, size):
    return [made.randrange(size) for number in range(made.randint(0, 30))]


def calls_of_rounds(made, size, many):
    """Calls of just so many rounds: shuffled, with houses called more often than needed."""
    calls = []
    for turn in range(many):
        # A round is done with the first call of its last house, so that one comes once.
        houses = made.sample(range(size), size)
        ahead = houses[:-1]
        more = [made.choice(ahead) for number in range(made.randint(0, 3))] if ahead else []
        ahead = ahead + more
        made.shuffle(ahead)
        calls.extend(ahead + houses[-1:])
    return calls


def own_rows(town):
    return [(town.name(house), 0, 0, None) for house in range(town.size)]


def ends(town, rope):
    return town.rope(rope)[:2]


def other_end(town, rope, house):
    one, other = ends(town, rope)
    return other if house == one else one


def offers_to(town, live, rows, house):
    """Point [7], word by word."""
    offers = []
    for rope in live:
        if house in ends(town, rope):
            head, cost, hops, by = rows[other_end(town, rope, house)]
            if hops + 1 < town.size:
                offers.append((head, cost + town.rope(rope)[2], hops + 1, rope))
    return offers


def due_by_words(town, live, rows, house):
    return min([(town.name(house), 0, 0, None)] + offers_to(town, live, rows, house))


def rests_by_words(town, live, rows):
    return all(rows[house] == due_by_words(town, live, rows, house) for house in range(town.size))


def called_by_words(town, live, rows, calls):
    for called in calls:
        due = due_by_words(town, live, rows, called)
        rows = [due if house == called else row for house, row in enumerate(rows)]
    return rows


def rounds_by_words(size, calls):
    """Point [8]: the shortest beginnings, cut off one after another."""
    for length in range(len(calls) + 1):
        if all(house in calls[:length] for house in range(size)):
            return 1 + rounds_by_words(size, calls[length:])
    return 0


def led_to(town, ropes, house):
    """The houses to which ropes lead from a house, itself among them."""
    met = {house}
    while True:
        more = {end for rope in ropes if met & set(ends(town, rope)) for end in ends(town, rope)} - met
        if not more:
            return met
        met |= more


def parts_by_words(town, ropes):
    return [min(led_to(town, ropes, house)) for house in range(town.size)]


def ways(town, ropes, one, other, seen=()):
    """All ways from one house to another, no house twice."""
    if one == other:
        return [[]]
    found = []
    for rope in ropes:
        if one in ends(town, rope) and other_end(town, rope, one) not in seen:
            for rest in ways(town, ropes, other_end(town, rope, one), other, seen + (one,)):
                found.append([rope] + rest)
    return found


def least_by_ways(town, live, one, other):
    """The least cost and the least number of ropes at that cost, out of all ways."""
    return min((sum(town.rope(rope)[2] for rope in way), len(way)) for way in ways(town, live, one, other))


def least_by_waiting(town, live, start):
    """The same from a start to each house that is led to: the nearest one that waits is taken, again and again."""
    done = {}
    waiting = {start: (0, 0)}
    while waiting:
        house = min(waiting, key=lambda each: waiting[each])
        cost, hops = done[house] = waiting.pop(house)
        for rope in live:
            if house in ends(town, rope) and other_end(town, rope, house) not in done:
                further = other_end(town, rope, house)
                offered = (cost + town.rope(rope)[2], hops + 1)
                waiting[further] = min(offered, waiting.get(further, offered))
    return done


def rest_by_words(town, live):
    """Point [9]: the one list of rows at rest."""
    short = []
    for house in range(town.size):
        first = min(led_to(town, live, house), key=town.name)
        short.append((town.name(first),) + least_by_waiting(town, live, first)[house])
    rows = []
    for house, (head, cost, hops) in enumerate(short):
        fitting = [rope for rope in live if house in ends(town, rope)
                   and (head, cost - town.rope(rope)[2], hops - 1) == short[other_end(town, rope, house)]]
        rows.append((head, cost, hops, None if head == town.name(house) else min(fitting)))
    return rows


def ups_by_words(town, live, rows):
    """Point [10]."""
    told = []
    for house, row in enumerate(rows):
        hung = [made[3] for made in offers_to(town, live, rows, house) if made == row]
        told.append((hung[0], other_end(town, hung[0], house)) if hung else None)
    return told


def opens_by_words(town, live, rows):
    hung = [up[0] for up in ups_by_words(town, live, rows) if up]
    return [rope for rope in range(town.many) if rope in hung]


def up_way_by_words(town, live, rows, house):
    up = ups_by_words(town, live, rows)[house]
    return [house] + (up_way_by_words(town, live, rows, up[1]) if up else [])


def beyond_by_words(town, live, rows, rope):
    """Point [12]: a house is beyond a rope if it hangs by it, or hangs on one that is beyond it."""
    told = ups_by_words(town, live, rows)
    met = [house for house, up in enumerate(told) if up and up[0] == rope]
    for turn in range(town.size):
        met = met + [house for house, up in enumerate(told) if up and up[1] in met and house not in met]
    return sorted(met)

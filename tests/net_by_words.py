"""The net of points [17] to [19] told a second time, without the program: all that was done stands in one log."""

from knotless.errors import Apart, NoCaller, NoCopy, NoGroup, NoHouse, NoLetter, NoWire
from knotless.towns import Town
from samples import (
    VAST, due_by_words, ends, led_to, opens_by_words, other_end, own_rows, rests_by_words, ways,
)

GROUPS = (0, 1, 2)


class NetByWords:
    def __init__(self, town, callers):
        self.town = town
        self.house_of = {caller: told[0] for caller, told in enumerate(callers)}
        self.group_of = {caller: told[1] for caller, told in enumerate(callers)}
        self.up = {(rope, wire) for rope in range(town.many) for wire in range(town.rope(rope)[3])}
        self.held = {group: own_rows(town) for group in GROUPS}
        self.news = {group: 0 for group in GROUPS}
        # Notes and letters are kept with the count of news at their time; behind the next news they are gone or old.
        self.noted = []
        self.sent = []
        self.air = []
        self.log = []

    def wires_up(self, rope):
        return sorted(wire for each, wire in self.up if each == rope)

    def in_group(self, rope):
        return [group for group in GROUPS if self.town.rope(rope)[4] // (1, 2, 4)[group] % 2 == 1]

    # What is told.

    def rows(self, group):
        return list(self.held[group])

    def live(self, group):
        return sorted({rope for rope, wire in self.up if group in self.in_group(rope)})

    def opens(self, group):
        return opens_by_words(self.town, self.live(group), self.held[group])

    def notes(self, group):
        told = {(house, caller): rope for at, news, house, caller, rope in self.noted
                if (at, news) == (group, self.news[group])}
        return sorted(key + (rope,) for key, rope in told.items())

    def resting(self, group):
        return rests_by_words(self.town, self.live(group), self.held[group])

    def place(self, caller):
        return self.house_of[caller]

    def had(self, caller):
        return [number for number, deed in self.log if deed[0] == "hand" and deed[2] == caller]

    def story(self, letter):
        return [deed for number, deed in self.log if number == letter]

    def flying(self):
        return list(self.air)

    # What is done.

    def call(self, house, group):
        due = due_by_words(self.town, self.live(group), self.held[group], house)
        changed = due != self.held[group][house]
        self.held[group] = self.held[group][:house] + [due] + self.held[group][house + 1:]
        self.news[group] += changed
        return changed

    def fall(self, rope, wire):
        self.up.remove((rope, wire))
        for number, by, on, house in self.air:
            if (by, on) == (rope, wire):
                self.log.append((number, ("lost", house, rope)))
        self.air = [each for each in self.air if (each[1], each[2]) != (rope, wire)]
        return self.rope_news(rope, not self.wires_up(rope))

    def lay(self, rope, wire):
        begins = not self.wires_up(rope)
        self.up.add((rope, wire))
        return self.rope_news(rope, begins)

    def rope_news(self, rope, is_news):
        for group in self.in_group(rope):
            self.news[group] += is_news
        return is_news

    def move(self, caller, house):
        self.news[self.group_of[caller]] += house != self.house_of[caller]
        self.house_of[caller] = house

    def post(self, sender, to=None):
        number = len(self.sent)
        group = self.group_of[sender]
        self.sent.append((sender, to, group, self.news[group]))
        self.log.append((number, ("post", self.house_of[sender])))
        self.do(number, self.house_of[sender], None)
        return number

    def pass_on(self, at=0):
        number, rope, wire, house = self.air[at]
        self.air = self.air[:at] + self.air[at + 1:]
        sender, to, group, news = self.sent[number]
        if rope not in self.opens(group):
            self.log.append((number, ("lost", house, rope)))
            return "lost"
        if any(deed[0] in ("post", "come") and deed[1] == house for deed in self.story(number)):
            self.log.append((number, ("twice", house, rope)))
            return "twice"
        self.log.append((number, ("come", house, rope)))
        if news == self.news[group]:
            self.noted.append((group, news, house, sender, rope))
        self.do(number, house, rope)
        return "come"

    def do(self, number, house, came):
        sender, to, group, news = self.sent[number]
        here = [caller for caller in sorted(self.house_of)
                if self.house_of[caller] == house and self.group_of[caller] == group]
        for caller in here:
            if (to is None and caller != sender) or (to is not None and caller == to):
                self.log.append((number, ("hand", house, caller)))
        for rope in self.ropes_on(to, group, house, here):
            if rope != came:
                up = self.wires_up(rope)
                wire = up[(sender if to is None else sender + to + 1) % len(up)]
                self.log.append((number, ("send", house, rope, wire)))
                self.air.append((number, rope, wire, other_end(self.town, rope, house)))

    def ropes_on(self, to, group, house, here):
        """Those of point [16], the one by which it came perhaps among them."""
        if to is not None and to in here:
            return []
        ropes = [rope for rope in self.opens(group) if house in ends(self.town, rope)]
        noted = [rope for at, caller, rope in self.notes(group) if to is not None and (at, caller) == (house, to)]
        return noted if noted and noted[0] in ropes else ropes

    # What is refused.

    def refusal(self, deed, *told):
        """The error class by which a deed is refused, or None."""
        if deed in ("fall", "lay"):
            rope, wire = told
            there = 0 <= rope < self.town.many and 0 <= wire < self.town.rope(rope)[3]
            return None if there and (deed == "fall") == ((rope, wire) in self.up) else NoWire
        if deed == "pass_on":
            return None if told[0] in range(len(self.air)) else NoCopy
        if deed == "story":
            return None if told[0] in range(len(self.sent)) else NoLetter
        if deed == "post":
            return self.refused_post(*told)
        kinds = {"call": "hg", "row": "hg", "move": "ch", "place": "c", "had": "c"}.get(deed, "g")
        for kind, number in zip(kinds, told):
            if kind == "h" and number not in range(self.town.size):
                return NoHouse
            if kind == "g" and number not in GROUPS:
                return NoGroup
            if kind == "c" and number not in self.house_of:
                return NoCaller
        return None

    def refused_post(self, sender, to=None):
        if sender not in self.house_of or (to is not None and to not in self.house_of):
            return NoCaller
        return Apart if to is not None and self.group_of[sender] != self.group_of[to] else None


def all_told(net, callers, letters):
    """All that a net tells of itself, be it the program's or the one told here."""
    return {
        "groups": [(net.rows(group), net.live(group), net.opens(group), net.notes(group), net.resting(group))
                   for group in GROUPS],
        "callers": [(net.place(caller), net.had(caller)) for caller in range(callers)],
        "flying": net.flying(),
        "stories": [net.story(letter) for letter in range(letters)],
    }


def made_ring_town(made, most=6):
    """A town with more ropes than houses and few wires, so that open ropes change often."""
    size = made.randint(3, most)
    joined = [tuple(made.sample(range(size), 2)) for number in range(2 * size)]
    wires = made.choice([(1,), (1, 1, 2), (1, 2, 3, 4)])
    lets = made.choice([(7,), (7, 7, 3, 5, 6, 1, 2, 4)])
    ropes = [pair + (made.randint(1, 4), made.choice(wires), made.choice(lets)) for pair in joined[:20]]
    return Town(made.sample(range(40), size), ropes)


def made_full_town(made):
    """A town in which each two houses are joined by one rope of one wire."""
    size = made.randint(3, 5)
    ropes = [(one, other, made.randint(1, 4), 1, 7) for one in range(size) for other in range(one)]
    return Town(made.sample(range(40), size), ropes)


def made_callers(made, town, most=20):
    share = made.choice([(0,), (0, 1), (0, 1, 2), (2,)])
    return [(made.randrange(town.size), made.choice(share)) for number in range(made.randint(0, most))]


def near(made, many):
    """A number that is mostly below so many, sometimes just beyond, seldom far off."""
    if made.random() < 0.02:
        return made.choice([-1, many, -many, -many - 1, many + 1, VAST, -VAST])
    return made.randrange(many) if many else made.choice([0, -1, 1])


def made_deed(made, net):
    """A deed's name and its numbers, by a net told by words, so that most of them can be done."""
    town = net.town
    callers = len(net.house_of)
    # Copies are let gather, so that much is done while they fly.
    passing = ["pass_on"] * (len(net.air) // 3 + 1)
    deed = made.choice(["call"] * 6 + ["fall", "fall", "lay", "lay", "move", "post", "post"] + passing)
    if deed == "call":
        return made_call(made, net)
    if deed in ("fall", "lay"):
        return made_wire(made, net, deed)
    if deed == "move":
        return deed, near(made, callers), near(made, town.size)
    if deed == "pass_on":
        return deed, near(made, len(net.air))
    sender = near(made, callers)
    return (deed, sender) if made.random() < 0.6 else (deed, sender, made_to(made, net, sender))


def made_wild_deed(made, net):
    """One of those by which open ropes change under copies that go on flying."""
    deed = made.choice(["call"] * 4 + ["fall"] * 2 + ["lay"] * 2 + ["post"] + ["pass_on"] * 2)
    if deed == "call":
        return made_call(made, net)
    if deed == "post":
        return deed, near(made, len(net.house_of))
    if deed == "pass_on":
        return deed, near(made, len(net.air))
    borne = [rope for number, rope, wire, house in net.air]
    fitting = [rope for rope in range(net.town.many) if ((rope, 0) in net.up) == (deed == "fall") and rope not in borne]
    return (deed, made.choice(fitting), 0) if fitting else made_call(made, net)


def made_call(made, net):
    """Often of a house whose row is not its due, in a group that has callers."""
    group = made.choice(sorted(net.group_of.values()) or GROUPS)
    stale = [house for house in range(net.town.size)
             if net.held[group][house] != due_by_words(net.town, net.live(group), net.held[group], house)]
    if stale and made.random() < 0.9:
        return "call", made.choice(stale), group
    return "call", near(made, net.town.size), near(made, 3)


def made_wire(made, net, deed):
    every = [(rope, wire) for rope in range(net.town.many) for wire in range(net.town.rope(rope)[3])]
    fitting = [each for each in every if (each in net.up) == (deed == "fall")]
    if made.random() < 0.7:
        # With those that bear copies left alone, more of the copies live to see another town.
        borne = [(rope, wire) for number, rope, wire, house in net.air]
        fitting = [each for each in fitting if each not in borne]
    if fitting and made.random() < 0.9:
        return (deed,) + made.choice(fitting)
    return deed, near(made, net.town.many), near(made, 4)


def made_to(made, net, sender):
    alike = [caller for caller in net.house_of if net.group_of[caller] == net.group_of.get(sender)]
    return made.choice(alike) if alike and made.random() < 0.9 else near(made, len(net.house_of))


def route_by_words(net, group, one, other):
    """Point [11] for the group's open ropes, or None."""
    found = ways(net.town, net.opens(group), one, other)
    return found[0] if found else None


def led_by_open(net, group, house):
    return led_to(net.town, net.opens(group), house)

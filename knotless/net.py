"""The net: callers in the houses of a town, and letters that fly over its open ropes."""

from knotless.books import Book
from knotless.doing import targets
from knotless.errors import Apart, BadTown, NoCaller, NoCopy, NoHouse, NoLetter
from knotless.letters import ToAll, ToOne
from knotless.opens import open_at, opens
from knotless.rows import due, own_row, resting
from knotless.strands import Strands, check_group
from knotless.towns import GROUP_BITS

MOST_CALLERS = 20


class Posted:
    """A letter that was posted, and what has become of it."""

    def __init__(self, letter, group):
        self.letter = letter
        self.group = group
        self.old = False
        self.done_at = {}
        self.deeds = []


class Net:
    """Rows and notes of each group, the callers' houses, the letters that were posted and the copies that fly."""

    def __init__(self, town, callers):
        check_callers(town, callers)
        self.town = town
        self.strands = Strands(town)
        self.rows_by_group = [first_rows(town) for bit in GROUP_BITS]
        self.books = [Book() for bit in GROUP_BITS]
        self.homes = [caller[0] for caller in callers]
        self.groups = [caller[1] for caller in callers]
        self.handed = [[] for caller in callers]
        self.letters = []
        self.copies = []

    def rows(self, group):
        """The rows of the houses, in the group."""
        check_group(group)
        return list(self.rows_by_group[group])

    def live(self, group):
        """The ropes that stand and let the group, rising."""
        return self.strands.live(group)

    def opens(self, group):
        """The open ropes of the group, rising."""
        return opens(self.town, self.live(group), self.rows(group))

    def notes(self, group):
        """The group's notes, tuples (house, caller, rope), sorted."""
        check_group(group)
        return self.books[group].notes()

    def resting(self, group):
        """True where each house's row in the group is its due."""
        return resting(self.town, self.live(group), self.rows(group))

    def row_at(self, house, group):
        """The house's row in the group."""
        self.check_house(house)
        return self.rows(group)[house]

    def call(self, house, group):
        """True where the house's row changed, else False."""
        ahead = self.row_at(house, group)
        row = due(self.town, self.live(group), self.rows(group), house)
        if row == ahead:
            return False
        self.rows_by_group[group][house] = row
        self.take_news(group)
        return True

    def fall(self, rope, wire):
        """True where the rope stands no more behind it, else False."""
        ended = self.strands.fall(rope, wire)
        self.lose_copies(rope, wire)
        if ended:
            self.take_news_of_rope(rope)
        return ended

    def lay(self, rope, wire):
        """True where the rope did not stand ahead of it, else False."""
        began = self.strands.lay(rope, wire)
        if began:
            self.take_news_of_rope(rope)
        return began

    def place(self, caller):
        """The caller's house."""
        self.check_caller(caller)
        return self.homes[caller]

    def had(self, caller):
        """The letters that were handed to the caller, in that order."""
        self.check_caller(caller)
        return list(self.handed[caller])

    def move(self, caller, house):
        self.check_caller(caller)
        self.check_house(house)
        if house != self.homes[caller]:
            self.homes[caller] = house
            self.take_news(self.groups[caller])

    def post(self, sender, to=None):
        """The number of the new letter, which is to all where to is None."""
        self.check_pair(sender, to)
        letter = ToAll(sender) if to is None else ToOne(sender, to)
        number = len(self.letters)
        self.letters.append(Posted(letter, self.groups[sender]))
        house = self.homes[sender]
        self.letters[number].deeds.append(("post", house))
        self.do_letter(number, house, None)
        return number

    def flying(self):
        """The copies that fly, tuples (letter, rope, wire, the house to which it flies), in their order."""
        return list(self.copies)

    def pass_on(self, at=0):
        """What becomes of the copy at a place, that arrives: "come", "twice" or "lost"."""
        if not 0 <= at < len(self.copies):
            raise NoCopy("no copy flies at that place")
        landed = self.copies.pop(at)
        number = landed[0]
        rope = landed[1]
        house = landed[3]
        posted = self.letters[number]
        fate = self.fate_of(posted, rope, house)
        posted.deeds.append((fate, house, rope))
        if fate == "come":
            # Since news came the sender may be elsewhere, or be come to by another rope.
            if not posted.old:
                self.books[posted.group].learn(house, posted.letter.sender, rope)
            self.do_letter(number, house, rope)
        return fate

    def story(self, letter):
        """What was done with the letter, in that order."""
        if not 0 <= letter < len(self.letters):
            raise NoLetter("there is no such letter")
        return list(self.letters[letter].deeds)

    def fate_of(self, posted, rope, house):
        if rope not in self.opens(posted.group):
            return "lost"
        return "twice" if house in posted.done_at else "come"

    def do_letter(self, number, house, came):
        posted = self.letters[number]
        group = posted.group
        posted.done_at[house] = True
        open_here = open_at(self.town, self.live(group), self.rows(group), house)
        here = self.callers_at(house, group)
        found = targets(self.books[group], posted.letter, house, came, open_here, here)
        for caller in found[0]:
            self.handed[caller].append(number)
            posted.deeds.append(("hand", house, caller))
        for rope in found[1]:
            self.send(number, house, rope)

    def callers_at(self, house, group):
        there = (house, group)
        return [caller for caller in range(len(self.homes)) if (self.homes[caller], self.groups[caller]) == there]

    def send(self, number, house, rope):
        posted = self.letters[number]
        wire = self.strands.wire_for(rope, posted.letter.number())
        posted.deeds.append(("send", house, rope, wire))
        self.copies.append((number, rope, wire, self.town.far_end(rope, house)))

    def lose_copies(self, rope, wire):
        """Those that fly on a wire that fell."""
        left = []
        for flown in self.copies:
            if flown[1:3] == (rope, wire):
                self.letters[flown[0]].deeds.append(("lost", flown[3], rope))
            else:
                left.append(flown)
        self.copies = left

    def take_news(self, group):
        self.books[group].forget()
        for posted in self.letters:
            if posted.group == group:
                posted.old = True

    def take_news_of_rope(self, rope):
        for group in range(len(GROUP_BITS)):
            if self.town.lets(rope, group):
                self.take_news(group)

    def check_house(self, house):
        if not 0 <= house < self.town.size:
            raise NoHouse("there is no such house")

    def check_caller(self, caller):
        if not 0 <= caller < len(self.homes):
            raise NoCaller("there is no such caller")

    def check_pair(self, sender, to):
        self.check_caller(sender)
        if to is not None:
            self.check_caller(to)
            if self.groups[sender] != self.groups[to]:
                raise Apart("the two callers are of unlike groups")


def first_rows(town):
    return [own_row(town, house) for house in range(town.size)]


def check_callers(town, callers):
    if len(callers) > MOST_CALLERS:
        raise BadTown(f"a net has at most {MOST_CALLERS} callers")
    for caller in callers:
        if len(caller) != 2:
            raise BadTown("a caller is told by house and group")
        if not 0 <= caller[0] < town.size:
            raise BadTown("a caller is in a house of the town")
        if not 0 <= caller[1] < len(GROUP_BITS):
            raise BadTown("a caller is of one of the groups")

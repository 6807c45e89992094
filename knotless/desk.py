"""The desk: a net that is spoken to in rows of words, and answers in texts."""

from knotless.errors import NoText
from knotless.net import Net
from knotless.texts import read_number, read_numbers, read_town
from knotless.towns import Town


def written(told):
    """A number as it is written, or a dash for None."""
    return "-" if told is None else str(told)


def listed(numbers):
    """Numbers with a blank between, or a dash where there are none at all."""
    return " ".join([written(number) for number in numbers]) if numbers else "-"


def answer_call(net, numbers):
    return "new" if net.call(numbers[0], numbers[1]) else "same"


def answer_round(net, numbers):
    changed = [net.call(house, numbers[0]) for house in range(net.town.size)]
    return written(changed.count(True))


def answer_rest(net, numbers):
    return "yes" if net.resting(numbers[0]) else "no"


def answer_row(net, numbers):
    return listed(net.row_at(numbers[0], numbers[1]))


def answer_open(net, numbers):
    return listed(net.opens(numbers[0]))


def answer_fall(net, numbers):
    return "ends" if net.fall(numbers[0], numbers[1]) else "same"


def answer_lay(net, numbers):
    return "begins" if net.lay(numbers[0], numbers[1]) else "same"


def answer_move(net, numbers):
    net.move(numbers[0], numbers[1])
    return "ok"


def answer_post(net, numbers):
    return written(net.post(numbers[0], numbers[1]))


def answer_pass(net, numbers):
    return net.pass_on(numbers[0])


def answer_run(net, numbers):
    arrived = 0
    # This ends: a house does a letter once at most, so only so many copies are ever sent.
    while net.flying():
        net.pass_on()
        arrived += 1
    return written(arrived)


def answer_flying(net, numbers):
    return written(len(net.flying()))


def answer_had(net, numbers):
    return listed(net.had(numbers[0]))


def answer_story(net, numbers):
    # A deed's words are written as its numbers are.
    return ", ".join([listed(deed) for deed in net.story(numbers[0])])


# By a row's first word: how many numbers come behind it, and what answers it.
ANSWERS = {
    "call": (2, answer_call),
    "round": (1, answer_round),
    "rest": (1, answer_rest),
    "row": (2, answer_row),
    "open": (1, answer_open),
    "fall": (2, answer_fall),
    "lay": (2, answer_lay),
    "move": (2, answer_move),
    "post": (2, answer_post),
    "pass": (1, answer_pass),
    "run": (0, answer_run),
    "flying": (0, answer_flying),
    "had": (1, answer_had),
    "story": (1, answer_story),
}


class Desk:
    """A net that was made of a town's text."""

    def __init__(self, text):
        told = read_town(text)
        self.net = Net(Town(told[0], told[1]), told[2])

    def say(self, row):
        """The answer to a row."""
        words = row.split(" ")
        if words[0] not in ANSWERS:
            raise NoText("no row begins with this word")
        wanted = ANSWERS[words[0]]
        return wanted[1](self.net, read_behind(words, wanted[0]))


def read_behind(words, many):
    """The numbers behind a row's first word, with None for all."""
    if words[0] == "post" and words[2:] == ["all"]:
        return [read_number(words[1]), None]
    return read_numbers(words[1:], many)

"""Texts: how numbers and towns are written."""

from knotless.errors import NoText

FIGURES = "0123456789"
MOST_FIGURES = 60
ROPE_NUMBERS = 5
CALLER_NUMBERS = 2


def read_number(word):
    """The whole number that a word writes."""
    if not 1 <= len(word) <= MOST_FIGURES:
        raise NoText(f"a number is written by 1 to {MOST_FIGURES} figures")
    # Python's own would take other signs for figures too.
    if not all([sign in FIGURES for sign in word]):
        raise NoText("a number is written by figures alone")
    if word[0] == "0" and word != "0":
        raise NoText("no number but 0 itself begins with a nought")
    return int(word)


def read_numbers(words, many):
    """The numbers that words write, of which there must be just so many."""
    if len(words) != many:
        raise NoText(f"{many} numbers are asked for here")
    return [read_number(word) for word in words]


def read_town(text):
    """The names, the ropes and the callers that a town's text tells."""
    told = [part.split(" ") for part in text.split("; ")]
    names = read_names(told[0])
    ropes = []
    callers = []
    for words in told[1:]:
        if words[0] == "rope" and callers == []:
            ropes.append(tuple(read_numbers(words[1:], ROPE_NUMBERS)))
        elif words[0] == "caller":
            callers.append(tuple(read_numbers(words[1:], CALLER_NUMBERS)))
        else:
            raise NoText("behind the names come ropes, then callers")
    return (names, ropes, callers)


def read_names(words):
    if words[0] != "names" or len(words) < 2:
        raise NoText("first come the names, at least one")
    return [read_number(word) for word in words[1:]]

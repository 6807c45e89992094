"""Doing: what a house does with a letter that came to it."""


def targets(book, letter, house, came, open_here, here):
    """The callers to whom the letter is handed, and the ropes over which it goes on, both rising."""
    handed = [caller for caller in here if letter.meant(caller)]
    return (handed, ropes_on(book, letter.seeks(), house, came, open_here, here))


def ropes_on(book, sought, house, came, open_here, here):
    # A letter that seeks none has no note to follow, and None is no caller who could be here.
    if sought in here:
        return []
    noted = None if sought is None else book.known(house, sought)
    leading = [noted] if noted in open_here else open_here
    return [rope for rope in leading if rope != came]

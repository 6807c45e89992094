import itertools
import random
import unittest

from knotless.books import Book
from knotless.doing import targets
from knotless.letters import Letter, ToAll, ToOne
from samples import VAST


def book_of(*notes):
    book = Book()
    for house, caller, rope in notes:
        book.learn(house, caller, rope)
    return book


def targets_by_words(notes, sender, to, house, came, open_here, here):
    """Point [16], word by word; to is "all" for a letter to all, None for the bare one."""
    if to == "all":
        meant = [caller for caller in here if caller != sender]
    else:
        meant = [caller for caller in here if caller == to]
    if to not in ("all", None):
        if to in here:
            return (meant, [])
        noted = [rope for at, caller, rope in notes if (at, caller) == (house, to)]
        if noted and noted[0] in open_here:
            return (meant, [] if noted[0] == came else noted)
    return (meant, [rope for rope in open_here if rope != came])


class ToAllOfThem(unittest.TestCase):
    def test_handed_to_all_here_but_the_sender(self):
        letter = ToAll(4)
        self.assertEqual(targets(Book(), letter, 0, None, [], [1, 4, 7]), ([1, 7], []))
        self.assertEqual(targets(Book(), letter, 0, None, [], [4]), ([], []))
        self.assertEqual(targets(Book(), letter, 0, None, [], [0, 5, 19]), ([0, 5, 19], []))
        self.assertEqual(targets(Book(), letter, 0, None, [], []), ([], []))

    def test_goes_on_over_all_open_ropes_where_it_came_by_none(self):
        self.assertEqual(targets(Book(), ToAll(4), 0, None, [0, 3, 8], [4]), ([], [0, 3, 8]))

    def test_goes_on_over_all_open_ropes_but_the_one_by_which_it_came(self):
        for came, left in ((0, [3, 8]), (3, [0, 8]), (8, [0, 3])):
            self.assertEqual(targets(Book(), ToAll(4), 0, came, [0, 3, 8], [2]), ([2], left))

    def test_a_house_at_the_end(self):
        self.assertEqual(targets(Book(), ToAll(4), 0, 0, [0], [2]), ([2], []))
        self.assertEqual(targets(Book(), ToAll(4), 0, None, [], [2]), ([2], []))

    def test_notes_lead_it_nowhere(self):
        book = book_of((0, 4, 3), (0, 2, 8), (0, 0, 0))
        self.assertEqual(targets(book, ToAll(4), 0, None, [0, 3, 8], [2]), ([2], [0, 3, 8]))
        self.assertEqual(targets(book, ToAll(4), 0, 3, [0, 3, 8], [4]), ([], [0, 8]))

    def test_callers_and_ropes_rising(self):
        handed, ropes = targets(Book(), ToAll(0), 1, 9, [2, 9, 10, 11, 19], [0, 3, 10, 11, 12])
        self.assertEqual((handed, ropes), ([3, 10, 11, 12], [2, 10, 11, 19]))


class Bare(unittest.TestCase):
    def test_handed_to_none(self):
        self.assertEqual(targets(Book(), Letter(4), 0, None, [], [1, 4, 7]), ([], []))

    def test_goes_on_as_one_to_all(self):
        book = book_of((0, 4, 3), (0, 7, 8))
        for came, left in ((None, [0, 3, 8]), (0, [3, 8]), (3, [0, 8]), (8, [0, 3])):
            self.assertEqual(targets(book, Letter(4), 0, came, [0, 3, 8], [1, 4, 7]), ([], left))


class ToOneHere(unittest.TestCase):
    def test_handed_to_that_one_alone_and_goes_on_over_none(self):
        for came in (None, 0, 3, 8):
            self.assertEqual(targets(Book(), ToOne(4, 7), 0, came, [0, 3, 8], [1, 4, 7, 9]), ([7], []))

    def test_whatever_the_book_says(self):
        for rope in (0, 3, 5, 8):
            book = book_of((0, 7, rope))
            for came in (None, 0, 3):
                self.assertEqual(targets(book, ToOne(4, 7), 0, came, [0, 3, 8], [7]), ([7], []))

    def test_to_oneself(self):
        self.assertEqual(targets(Book(), ToOne(4, 4), 0, None, [0, 3], [1, 4]), ([4], []))

    def test_to_caller_0(self):
        self.assertEqual(targets(Book(), ToOne(4, 0), 0, None, [0, 3], [0, 4]), ([0], []))


class ToOneElsewhere(unittest.TestCase):
    def test_no_note_over_all_but_the_one_by_which_it_came(self):
        for came, left in ((None, [0, 3, 8]), (0, [3, 8]), (3, [0, 8]), (8, [0, 3])):
            self.assertEqual(targets(Book(), ToOne(4, 7), 0, came, [0, 3, 8], [1, 4]), ([], left))

    def test_a_note_with_an_open_rope(self):
        for rope in (0, 3, 8):
            book = book_of((0, 7, rope))
            self.assertEqual(targets(book, ToOne(4, 7), 0, None, [0, 3, 8], [1, 4]), ([], [rope]))
            for came in (0, 3, 8):
                left = [] if came == rope else [rope]
                self.assertEqual(targets(book, ToOne(4, 7), 0, came, [0, 3, 8], [1, 4]), ([], left))

    def test_a_note_with_a_rope_that_is_not_open(self):
        for rope in (1, 9, 19):
            book = book_of((0, 7, rope))
            self.assertEqual(targets(book, ToOne(4, 7), 0, None, [0, 3, 8], []), ([], [0, 3, 8]))
            self.assertEqual(targets(book, ToOne(4, 7), 0, 3, [0, 3, 8], []), ([], [0, 8]))

    def test_a_note_with_a_rope_that_is_not_open_and_by_which_it_came(self):
        self.assertEqual(targets(book_of((0, 7, 1)), ToOne(4, 7), 0, 1, [0, 3, 8], []), ([], [0, 3, 8]))

    def test_notes_at_another_house_and_for_another_caller(self):
        book = book_of((1, 7, 3), (0, 4, 3), (0, 6, 8), (7, 0, 3))
        self.assertEqual(targets(book, ToOne(4, 7), 0, None, [0, 3, 8], []), ([], [0, 3, 8]))

    def test_a_later_note_and_a_forgotten_one(self):
        book = book_of((0, 7, 3), (0, 7, 8))
        self.assertEqual(targets(book, ToOne(4, 7), 0, None, [0, 3, 8], []), ([], [8]))
        book.forget()
        self.assertEqual(targets(book, ToOne(4, 7), 0, None, [0, 3, 8], []), ([], [0, 3, 8]))

    def test_to_oneself(self):
        self.assertEqual(targets(Book(), ToOne(4, 4), 0, 0, [0, 3], [1]), ([], [3]))
        self.assertEqual(targets(book_of((0, 4, 0)), ToOne(4, 4), 0, 0, [0, 3], [1]), ([], []))

    def test_house_0_caller_0_rope_0(self):
        book = book_of((0, 0, 0))
        self.assertEqual(targets(book, ToOne(1, 0), 0, None, [0, 1], [1]), ([], [0]))
        self.assertEqual(targets(book, ToOne(1, 0), 0, 0, [0, 1], [1]), ([], []))
        self.assertEqual(targets(book, ToOne(1, 0), 0, 1, [0, 1], [1]), ([], [0]))

    def test_no_open_ropes(self):
        self.assertEqual(targets(Book(), ToOne(4, 7), 0, None, [], [4]), ([], []))
        self.assertEqual(targets(book_of((0, 7, 3)), ToOne(4, 7), 0, 3, [], [4]), ([], []))


class HandedIn(unittest.TestCase):
    def letters(self):
        return [Letter(4), ToAll(4), ToOne(4, 7), ToOne(4, 9), ToOne(4, 4)]

    def test_what_is_handed_in_stays(self):
        for letter, came in itertools.product(self.letters(), (None, 0, 3)):
            book = book_of((0, 7, 3), (0, 9, 5))
            open_here = [0, 3, 8]
            here = [1, 4]
            before = (letter.sender, letter.seeks(), letter.number())
            handed, ropes = targets(book, letter, 0, came, open_here, here)
            handed.append(99)
            ropes.append(99)
            self.assertEqual((open_here, here), ([0, 3, 8], [1, 4]))
            self.assertEqual(book.notes(), [(0, 7, 3), (0, 9, 5)])
            self.assertEqual((letter.sender, letter.seeks(), letter.number()), before)

    def test_a_told_list_that_was_changed_does_not_change_what_is_told_next(self):
        for letter, came in itertools.product(self.letters(), (None, 0, 3)):
            book = book_of((0, 7, 3), (0, 9, 5))
            first = targets(book, letter, 0, came, [0, 3, 8], [1, 4])
            kept = (list(first[0]), list(first[1]))
            first[0].clear()
            first[1].append(99)
            self.assertEqual(targets(book, letter, 0, came, [0, 3, 8], [1, 4]), kept)

    def test_a_tuple_of_two_lists(self):
        for letter in self.letters():
            told = targets(Book(), letter, 0, None, [0, 3], [1, 4])
            self.assertIsInstance(told, tuple)
            self.assertEqual(len(told), 2)
            self.assertIsInstance(told[0], list)
            self.assertIsInstance(told[1], list)

    def test_arguments_by_their_names(self):
        told = targets(here=[1, 4], open_here=[0, 3], came=0, house=2, letter=ToAll(1), book=Book())
        self.assertEqual(told, ([4], [3]))

    def test_numbers_of_sixty_figures(self):
        book = book_of((VAST, VAST - 2, VAST - 1))
        self.assertEqual(targets(book, ToOne(VAST, VAST - 2), VAST, None, [0, VAST - 1, VAST], [VAST]),
                         ([], [VAST - 1]))
        self.assertEqual(targets(book, ToAll(VAST), VAST, VAST, [0, VAST - 1, VAST], [VAST - 1, VAST]),
                         ([VAST - 1], [0, VAST - 1]))


class AgainstTheWords(unittest.TestCase):
    def letter_of(self, sender, to):
        if to is None:
            return Letter(sender)
        return ToAll(sender) if to == "all" else ToOne(sender, to)

    def test_made_houses(self):
        made = random.Random(16)
        for turn in range(3000):
            open_here = sorted(made.sample(range(6), made.randint(0, 4)))
            here = sorted(made.sample(range(5), made.randint(0, 3)))
            pairs = made.sample(list(itertools.product(range(2), range(5))), made.randint(0, 8))
            notes = [pair + (made.randrange(6),) for pair in pairs]
            sender = made.randrange(5)
            to = made.choice([None, "all"] + list(range(5)) * 2)
            came = made.choice([None] + list(range(6)))
            asked = (made.randrange(2), came, open_here, here)
            self.assertEqual(targets(book_of(*notes), self.letter_of(sender, to), *asked),
                             targets_by_words(notes, sender, to, *asked))


if __name__ == "__main__":
    unittest.main()

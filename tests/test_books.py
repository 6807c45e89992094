import random
import unittest

from knotless.books import Book
from samples import VAST


class Known(unittest.TestCase):
    def test_nothing_at_first(self):
        book = Book()
        self.assertEqual(book.notes(), [])
        for house in (0, 1, 9, VAST):
            for caller in (0, 1, 19, VAST):
                self.assertIsNone(book.known(house, caller))
        self.assertEqual(book.notes(), [])

    def test_a_note(self):
        book = Book()
        self.assertIsNone(book.learn(2, 5, 11))
        self.assertEqual(book.known(2, 5), 11)
        self.assertEqual(book.notes(), [(2, 5, 11)])

    def test_rope_0_of_house_0_for_caller_0(self):
        book = Book()
        book.learn(0, 0, 0)
        self.assertEqual(book.known(0, 0), 0)
        self.assertEqual(book.notes(), [(0, 0, 0)])

    def test_a_later_note_takes_the_place_of_the_earlier_one(self):
        book = Book()
        for rope in (4, 9, 0, 9, 3, 3):
            book.learn(1, 7, rope)
            self.assertEqual(book.known(1, 7), rope)
            self.assertEqual(book.notes(), [(1, 7, rope)])

    def test_a_later_note_leaves_the_others(self):
        book = Book()
        book.learn(1, 7, 4)
        book.learn(1, 8, 5)
        book.learn(2, 7, 6)
        book.learn(1, 7, 2)
        self.assertEqual(book.notes(), [(1, 7, 2), (1, 8, 5), (2, 7, 6)])

    def test_one_caller_at_several_houses(self):
        book = Book()
        for house in range(10):
            book.learn(house, 3, 19 - house)
        self.assertEqual([book.known(house, 3) for house in range(10)], [19 - house for house in range(10)])
        self.assertEqual(book.notes(), [(house, 3, 19 - house) for house in range(10)])

    def test_several_callers_at_one_house(self):
        book = Book()
        for caller in range(20):
            book.learn(4, caller, 19 - caller)
        self.assertEqual([book.known(4, caller) for caller in range(20)], list(range(19, -1, -1)))
        self.assertEqual(book.notes(), [(4, caller, 19 - caller) for caller in range(20)])

    def test_house_and_caller_are_not_changed_for_one_another(self):
        book = Book()
        book.learn(2, 5, 11)
        self.assertIsNone(book.known(5, 2))
        book.learn(5, 2, 12)
        self.assertEqual((book.known(2, 5), book.known(5, 2)), (11, 12))

    def test_none_for_what_was_not_noted(self):
        book = Book()
        book.learn(2, 5, 11)
        for house, caller in ((2, 4), (2, 6), (1, 5), (3, 5), (0, 0), (11, 5), (25, 5), (VAST, 5), (2, VAST)):
            self.assertIsNone(book.known(house, caller))
        self.assertEqual(book.notes(), [(2, 5, 11)])

    def test_numbers_of_sixty_figures(self):
        book = Book()
        book.learn(VAST, VAST - 1, VAST)
        book.learn(VAST, VAST, VAST - 1)
        self.assertEqual((book.known(VAST, VAST - 1), book.known(VAST, VAST)), (VAST, VAST - 1))
        self.assertIsNone(book.known(VAST - 1, VAST))
        self.assertEqual(book.notes(), [(VAST, VAST - 1, VAST), (VAST, VAST, VAST - 1)])

    def test_arguments_by_their_names(self):
        book = Book()
        book.learn(house=1, caller=2, rope=3)
        self.assertEqual(book.known(house=1, caller=2), 3)


class Notes(unittest.TestCase):
    def test_sorted_by_house_then_by_caller(self):
        book = Book()
        for house, caller, rope in ((2, 0, 1), (0, 10, 5), (10, 1, 0), (0, 2, 9), (2, 11, 0), (1, 3, 3), (0, 0, 19)):
            book.learn(house, caller, rope)
        self.assertEqual(book.notes(), [
            (0, 0, 19), (0, 2, 9), (0, 10, 5), (1, 3, 3), (2, 0, 1), (2, 11, 0), (10, 1, 0),
        ])

    def test_a_list_of_tuples(self):
        book = Book()
        self.assertIsInstance(book.notes(), list)
        book.learn(1, 2, 3)
        self.assertIsInstance(book.notes(), list)
        self.assertIsInstance(book.notes()[0], tuple)

    def test_a_told_list_that_was_changed_does_not_change_what_is_told_next(self):
        book = Book()
        book.notes().append((9, 9, 9))
        self.assertEqual(book.notes(), [])
        self.assertIsNone(book.known(9, 9))
        book.learn(1, 2, 3)
        told = book.notes()
        told[0] = (1, 2, 4)
        told.append((5, 6, 7))
        self.assertEqual(book.notes(), [(1, 2, 3)])
        book.notes().clear()
        self.assertEqual(book.notes(), [(1, 2, 3)])
        self.assertEqual((book.known(1, 2), book.known(5, 6)), (3, None))
        self.assertIsNot(book.notes(), book.notes())

    def test_a_told_list_stays_when_more_is_noted_or_forgotten(self):
        book = Book()
        book.learn(1, 2, 3)
        told = book.notes()
        book.learn(0, 0, 0)
        book.learn(1, 2, 9)
        self.assertEqual(told, [(1, 2, 3)])
        told = book.notes()
        book.forget()
        self.assertEqual(told, [(0, 0, 0), (1, 2, 9)])


class Forget(unittest.TestCase):
    def test_behind_it_there_are_none(self):
        book = Book()
        for house in range(10):
            for caller in range(20):
                book.learn(house, caller, (house + caller) % 20)
        self.assertEqual(len(book.notes()), 200)
        self.assertIsNone(book.forget())
        self.assertEqual(book.notes(), [])
        for house in range(10):
            for caller in range(20):
                self.assertIsNone(book.known(house, caller))

    def test_of_nothing_and_twice(self):
        book = Book()
        book.forget()
        self.assertEqual(book.notes(), [])
        book.learn(1, 2, 3)
        book.forget()
        book.forget()
        self.assertEqual(book.notes(), [])

    def test_notes_made_behind_it(self):
        book = Book()
        book.learn(1, 2, 3)
        book.learn(4, 5, 6)
        book.forget()
        book.learn(1, 2, 9)
        book.learn(0, 7, 8)
        self.assertEqual(book.notes(), [(0, 7, 8), (1, 2, 9)])
        self.assertEqual((book.known(1, 2), book.known(4, 5)), (9, None))


class BooksApart(unittest.TestCase):
    def test_notes_of_one_are_not_the_others(self):
        one = Book()
        other = Book()
        one.learn(1, 2, 3)
        self.assertIsNone(other.known(1, 2))
        self.assertEqual(other.notes(), [])
        other.learn(1, 2, 8)
        self.assertEqual((one.known(1, 2), other.known(1, 2)), (3, 8))
        self.assertEqual(Book().notes(), [])

    def test_what_one_forgets_the_other_keeps(self):
        one = Book()
        other = Book()
        one.learn(1, 2, 3)
        other.learn(1, 2, 3)
        one.forget()
        self.assertEqual((one.notes(), other.notes()), ([], [(1, 2, 3)]))


class ManyNotes(unittest.TestCase):
    def held(self, book, done):
        """Point [14], from the list of what was noted since the last time that all was forgotten."""
        for house in range(5):
            for caller in range(6):
                noted = [rope for at, of, rope in done if (at, of) == (house, caller)]
                self.assertEqual(book.known(house, caller), noted[-1] if noted else None)
        self.assertEqual(book.notes(), sorted(
            note for place, note in enumerate(done) if not any(later[:2] == note[:2] for later in done[place + 1:])))

    def test_made_notes(self):
        made = random.Random(14)
        for turn in range(20):
            book = Book()
            done = []
            for deed in range(60):
                if made.random() < 0.04:
                    book.forget()
                    done = []
                else:
                    note = (made.randrange(5), made.randrange(6), made.randrange(20))
                    book.learn(*note)
                    done.append(note)
                self.held(book, done)


if __name__ == "__main__":
    unittest.main()

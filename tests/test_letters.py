import unittest

from knotless.letters import Letter, ToAll, ToOne
from samples import VAST

CALLERS = [0, 1, 2, 3, 10, 19, 20, VAST - 1, VAST]


class Bare(unittest.TestCase):
    def test_meant_for_none(self):
        for sender in CALLERS:
            letter = Letter(sender)
            self.assertEqual([letter.meant(caller) for caller in CALLERS], [False] * len(CALLERS))
            self.assertIs(letter.meant(sender), False)

    def test_seeks_none(self):
        for sender in CALLERS:
            self.assertIsNone(Letter(sender).seeks())

    def test_sender_and_number(self):
        for sender in CALLERS:
            self.assertEqual(Letter(sender).sender, sender)
            self.assertEqual(Letter(sender).number(), sender)

    def test_arguments_by_their_names(self):
        letter = Letter(sender=4)
        self.assertEqual((letter.sender, letter.number(), letter.meant(caller=4)), (4, 4, False))


class OfOne(unittest.TestCase):
    def test_meant_for_that_one_alone(self):
        for sender in CALLERS:
            for to in CALLERS:
                letter = ToOne(sender, to)
                for caller in CALLERS:
                    self.assertIs(letter.meant(caller), caller == to)

    def test_seeks_that_one(self):
        for sender in CALLERS:
            for to in CALLERS:
                self.assertEqual(ToOne(sender, to).seeks(), to)

    def test_sender_and_to(self):
        for sender in CALLERS:
            for to in CALLERS:
                letter = ToOne(sender, to)
                self.assertEqual((letter.sender, letter.to), (sender, to))

    def test_number_is_both_and_1_added(self):
        self.assertEqual(ToOne(0, 0).number(), 1)
        self.assertEqual(ToOne(0, 1).number(), 2)
        self.assertEqual(ToOne(1, 0).number(), 2)
        self.assertEqual(ToOne(3, 5).number(), 9)
        self.assertEqual(ToOne(19, 18).number(), 38)

    def test_number_of_sixty_figures(self):
        self.assertEqual(ToOne(VAST, VAST).number(), 2 * 10 ** 60 - 1)
        self.assertEqual(ToOne(VAST, 0).number(), 10 ** 60)
        self.assertEqual(ToOne(0, VAST).number(), 10 ** 60)

    def test_to_oneself(self):
        for caller in CALLERS:
            letter = ToOne(caller, caller)
            self.assertIs(letter.meant(caller), True)
            self.assertEqual(letter.seeks(), caller)
            self.assertEqual((letter.sender, letter.to, letter.number()), (caller, caller, 2 * caller + 1))
            self.assertIs(letter.meant(caller + 1), False)

    def test_arguments_by_their_names(self):
        letter = ToOne(to=2, sender=4)
        self.assertEqual((letter.sender, letter.to, letter.seeks(), letter.number()), (4, 2, 2, 7))
        self.assertIs(letter.meant(caller=2), True)


class OfAll(unittest.TestCase):
    def test_meant_for_all_but_the_sender(self):
        for sender in CALLERS:
            letter = ToAll(sender)
            for caller in CALLERS:
                self.assertIs(letter.meant(caller), caller != sender)

    def test_seeks_none(self):
        for sender in CALLERS:
            self.assertIsNone(ToAll(sender).seeks())

    def test_sender_and_number(self):
        for sender in CALLERS:
            self.assertEqual(ToAll(sender).sender, sender)
            self.assertEqual(ToAll(sender).number(), sender)

    def test_arguments_by_their_names(self):
        letter = ToAll(sender=4)
        self.assertEqual((letter.sender, letter.number()), (4, 4))
        self.assertIs(letter.meant(caller=4), False)


class Under(unittest.TestCase):
    def test_both_stand_under_letter(self):
        self.assertTrue(issubclass(ToOne, Letter))
        self.assertTrue(issubclass(ToAll, Letter))
        self.assertIsInstance(ToOne(1, 2), Letter)
        self.assertIsInstance(ToAll(1), Letter)

    def test_none_of_the_two_stands_under_the_other_one(self):
        self.assertFalse(issubclass(ToOne, ToAll))
        self.assertFalse(issubclass(ToAll, ToOne))
        self.assertNotIsInstance(Letter(1), (ToOne, ToAll))


class LettersApart(unittest.TestCase):
    def test_letters_keep_their_own_values(self):
        letters = [Letter(1), ToOne(2, 3), ToOne(4, 5), ToAll(6), ToAll(7)]
        self.assertEqual([letter.sender for letter in letters], [1, 2, 4, 6, 7])
        self.assertEqual([letter.seeks() for letter in letters], [None, 3, 5, None, None])
        self.assertEqual([letter.number() for letter in letters], [1, 6, 10, 6, 7])

    def test_asked_again_they_tell_the_same(self):
        for letter in (Letter(1), ToOne(2, 3), ToAll(6)):
            first = (letter.sender, letter.seeks(), letter.number(), [letter.meant(caller) for caller in CALLERS])
            again = (letter.sender, letter.seeks(), letter.number(), [letter.meant(caller) for caller in CALLERS])
            self.assertEqual(first, again)


if __name__ == "__main__":
    unittest.main()

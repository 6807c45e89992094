import random
import unittest

from knotless.errors import NoText
from knotless.texts import read_number, read_town
from samples import VAST

SAMPLE = "names 7 3 9; rope 0 1 4 2 7; rope 1 2 5 1 1; caller 0 0; caller 2 0"

NO_NUMBERS = [
    "", " ", "-", "+", "-1", "+1", "-0", "+0", "00", "01", "007", "0 ", " 0", "1 ", " 1", "1 2", "1\n", "\n1", "\t1",
    "1.0", "1.", ".1", "1,000", "1_000", "1e3", "0x1", "0b1", "0o7", "x", "1x", "x1", "one", "None", "True", "all",
    "1;", ";1", "--1", "1-", "'1'", "\u0661", "1\u0661", "\u00b2", "\uff11", "\u00bd", "\u4e00", "\u00a01", "1\u2003",
    "0" * 60, "0" * 61, "0" + "1" * 59, "1" * 61, "1" * 100, "1" + "0" * 60, "9" * 61, "-" + "9" * 59, "1" * 9000,
]


class Numbers(unittest.TestCase):
    def test_each_of_one_figure(self):
        for number in range(10):
            self.assertEqual(read_number(str(number)), number)

    def test_several_figures(self):
        for word, number in (("10", 10), ("42", 42), ("100", 100), ("1234567890", 1234567890), ("909", 909)):
            self.assertEqual(read_number(word), number)

    def test_59_and_60_figures(self):
        self.assertEqual(read_number("9" * 60), VAST)
        self.assertEqual(read_number("1" + "0" * 59), 10 ** 59)
        self.assertEqual(read_number("9" * 59), 10 ** 59 - 1)

    def test_a_whole_number(self):
        for word in ("0", "1", "9" * 60):
            self.assertIs(int, read_number(word).__class__)

    def test_what_is_none(self):
        for word in NO_NUMBERS:
            with self.subTest(word[:70]):
                self.assertRaises(NoText, read_number, word)

    def test_each_sign_that_is_no_figure(self):
        for code in list(range(0, 0x700)) + list(range(0xff00, 0xff20)):
            sign = chr(code)
            if sign not in "0123456789":
                for word in (sign, "1" + sign, sign + "1", "1" + sign + "1"):
                    self.assertRaises(NoText, read_number, word)

    def test_argument_by_its_name(self):
        self.assertEqual(read_number(word="12"), 12)

    def test_read_again_as_it_is_written(self):
        made = random.Random(21)
        for turn in range(500):
            number = made.randrange(10 ** made.randint(1, 60))
            self.assertEqual(read_number(str(number)), number)
            self.assertRaises(NoText, read_number, "0" + str(number))
            self.assertRaises(NoText, read_number, "-" + str(number))


class Towns(unittest.TestCase):
    def test_the_sample(self):
        self.assertEqual(read_town(SAMPLE), ([7, 3, 9], [(0, 1, 4, 2, 7), (1, 2, 5, 1, 1)], [(0, 0), (2, 0)]))

    def test_names_alone(self):
        self.assertEqual(read_town("names 0"), ([0], [], []))
        self.assertEqual(read_town("names 5 4 3 2 1"), ([5, 4, 3, 2, 1], [], []))

    def test_names_and_ropes(self):
        self.assertEqual(read_town("names 1 2; rope 1 0 9 4 3"), ([1, 2], [(1, 0, 9, 4, 3)], []))

    def test_names_and_callers(self):
        self.assertEqual(read_town("names 1; caller 0 2; caller 0 1"), ([1], [], [(0, 2), (0, 1)]))

    def test_in_the_order_in_which_they_are_written(self):
        text = "names 3 1 2; rope 2 1 1 1 1; rope 0 1 1 1 1; rope 2 1 1 1 1; caller 2 0; caller 1 0; caller 2 0"
        self.assertEqual(read_town(text), ([3, 1, 2], [(2, 1, 1, 1, 1), (0, 1, 1, 1, 1), (2, 1, 1, 1, 1)],
                                           [(2, 0), (1, 0), (2, 0)]))

    def test_numbers_of_sixty_figures(self):
        vast = "9" * 60
        self.assertEqual(read_town(f"names {vast} 0; rope 0 1 {vast} 1 1; caller 0 0"),
                         ([VAST, 0], [(0, 1, VAST, 1, 1)], [(0, 0)]))

    def test_what_no_town_has_is_read_all_the_same(self):
        self.assertEqual(read_town("names 7 7; rope 0 0 0 0 0; rope 5 9 1 5 8; caller 9 3; caller 2 99"),
                         ([7, 7], [(0, 0, 0, 0, 0), (5, 9, 1, 5, 8)], [(9, 3), (2, 99)]))

    def test_more_than_a_town_has_are_read_all_the_same(self):
        text = "names" + " 4" * 12 + "; rope 0 1 1 1 1" * 25 + "; caller 0 0" * 30
        self.assertEqual(read_town(text), ([4] * 12, [(0, 1, 1, 1, 1)] * 25, [(0, 0)] * 30))

    def test_a_tuple_of_three_lists_of_tuples(self):
        told = read_town(SAMPLE)
        self.assertIsInstance(told, tuple)
        for part in told:
            self.assertIsInstance(part, list)
        for each in told[1] + told[2]:
            self.assertIsInstance(each, tuple)

    def test_told_lists_are_the_askers_own(self):
        for part in read_town(SAMPLE):
            part.append(99)
        self.assertEqual(read_town(SAMPLE), ([7, 3, 9], [(0, 1, 4, 2, 7), (1, 2, 5, 1, 1)], [(0, 0), (2, 0)]))
        for told in read_town("names 4")[1:]:
            told.append(99)
        self.assertEqual(read_town("names 4"), ([4], [], []))

    def test_argument_by_its_name(self):
        self.assertEqual(read_town(text="names 4"), ([4], [], []))


class NoTowns(unittest.TestCase):
    def refused(self, *texts):
        for text in texts:
            with self.subTest(text):
                self.assertRaises(NoText, read_town, text)

    def test_no_names(self):
        self.refused("", " ", ";", "; ", "names", "names ", "names; ", "names; rope 0 1 1 1 1", "names; caller 0 0",
                     "rope 0 1 1 1 1", "caller 0 0", "7 3 9", "rope 0 1 1 1 1; names 7 3", "caller 0 0; names 7")

    def test_parts_in_another_order(self):
        self.refused("names 7 3; caller 0 0; rope 0 1 1 1 1",
                     "names 7 3; rope 0 1 1 1 1; caller 0 0; rope 0 1 1 1 1",
                     "names 7 3; names 4", "names 7 3; names 7 3", "names 7 3; rope 0 1 1 1 1; names 7 3",
                     "names 7 3; caller 0 0; names 7 3")

    def test_odd_blanks(self):
        self.refused(" " + SAMPLE, SAMPLE + " ", SAMPLE + "; ", SAMPLE + ";", "; " + SAMPLE, SAMPLE + "\n",
                     "\n" + SAMPLE, "names  7 3", "names 7  3", "names 7 3 ", "names\t7 3", "names 7\n3",
                     "names 7 3;rope 0 1 1 1 1", "names 7 3 ; rope 0 1 1 1 1", "names 7 3;  rope 0 1 1 1 1",
                     "names 7 3;\nrope 0 1 1 1 1", "names 7 3;\trope 0 1 1 1 1", "names 7 3; ; rope 0 1 1 1 1",
                     "names 7 3;; rope 0 1 1 1 1", "names 7 3; rope  0 1 1 1 1", "names 7 3; rope 0 1 1 1 1 ",
                     "names 7 3; rope 0 1  1 1 1", "names 7; caller 0  0", "names 7; caller  0 0",
                     "names 7; caller 0 0 ", "names 7;; caller 0 0", "names 7;", "names 7; ", "names\u00a07")

    def test_each_blank_left_out_or_doubled(self):
        for place, sign in enumerate(SAMPLE):
            if sign == " ":
                self.refused(SAMPLE[:place] + " " + SAMPLE[place:], SAMPLE[:place] + "\t" + SAMPLE[place + 1:],
                             SAMPLE[:place] + "\n" + SAMPLE[place + 1:])
                if SAMPLE[place - 1] not in "0123456789" or SAMPLE[place + 1] not in "0123456789":
                    self.refused(SAMPLE[:place] + SAMPLE[place + 1:])

    def test_each_semicolon_left_out_or_doubled(self):
        for place, sign in enumerate(SAMPLE):
            if sign == ";":
                self.refused(SAMPLE[:place] + SAMPLE[place + 1:], SAMPLE[:place] + ";" + SAMPLE[place:],
                             SAMPLE[:place] + "," + SAMPLE[place + 1:], SAMPLE[:place] + "\n" + SAMPLE[place + 2:])

    def test_odd_words(self):
        self.refused("Names 7 3", "NAMES 7 3", "name 7 3", "namess 7 3", "names: 7 3", "names 7, 3", "names seven",
                     "names 7 x", "names -7", "names +7", "names 07", "names 7.0", "names 7 3 all", "names 7 names",
                     "names 7 3; Rope 0 1 1 1 1", "names 7 3; ropes 0 1 1 1 1", "names 7 3; rope a b 1 1 1",
                     "names 7 3; rope 0 1 -1 1 1", "names 7 3; rope 0 1 01 1 1", "names 7 3; knot 0 1 1 1 1",
                     "names 7 3; callers 0 0", "names 7; Caller 0 0", "names 7; caller 0 -1", "names 7; caller 0 x",
                     "names 7; caller 00 0", "names 7; 0 0", "names 7; 3", "names 7; run", "x", "town")

    def test_too_few_and_too_many_numbers(self):
        for many in (0, 1, 2, 3, 4, 6, 7, 10):
            self.refused("names 7 3; rope" + " 1" * many, "names 7 3; rope" + " 1" * many + "; caller 0 0")
        for many in (0, 1, 3, 4, 5):
            self.refused("names 7 3; caller" + " 0" * many, "names 7 3; rope 0 1 1 1 1; caller" + " 0" * many)

    def test_numbers_of_more_than_sixty_figures(self):
        vast = "1" * 61
        self.refused(f"names {vast}", f"names 7 3; rope 0 1 {vast} 1 1", f"names 7 3; caller 0 {vast}")

    def test_a_wrong_part_at_any_place(self):
        parts = SAMPLE.split("; ")
        for place in range(len(parts)):
            for wrong in ("", "x", "rope", "caller", "rope 0 1 1 1", "caller 0", "rope 0 1 1 1 x", "caller 0 x"):
                self.refused("; ".join(parts[:place] + [wrong] + parts[place:]),
                             "; ".join(parts[:place] + [wrong] + parts[place + 1:]))
        self.refused("; ".join(parts + [""]), "; ".join(parts + ["rope 0 1 1 1 1"]), "; ".join(parts + ["names 1"]))


class ReadAgain(unittest.TestCase):
    def test_made_texts(self):
        made = random.Random(22)
        for turn in range(300):
            names = [made.randrange(10 ** made.randint(1, 60)) for number in range(made.randint(1, 12))]
            ropes = [tuple(made.randrange(12) for number in range(5)) for rope in range(made.randint(0, 22))]
            callers = [tuple(made.randrange(12) for number in range(2)) for caller in range(made.randint(0, 22))]
            parts = [("names",) + tuple(names)] + [("rope",) + rope for rope in ropes]
            parts = parts + [("caller",) + caller for caller in callers]
            text = "; ".join(" ".join(map(str, part)) for part in parts)
            self.assertEqual(read_town(text), (names, ropes, callers))


if __name__ == "__main__":
    unittest.main()

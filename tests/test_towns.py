import unittest

from knotless.errors import BadTown
from knotless.towns import Town

VAST = 10 ** 60 - 1
NAMES = [7, 3, 9]
ROPES = [(0, 1, 4, 2, 7), (2, 1, 5, 1, 1), (1, 0, 6, 4, 6), (0, 1, 4, 2, 7)]


def ten_names():
    return [90, 0, 31, 5, 12, 77, 4, 3, 100, 1]


def twenty_ropes():
    return [(n % 10, (n + 1 + n // 10) % 10, n + 1, n % 4 + 1, n % 7 + 1) for n in range(20)]


class TownTells(unittest.TestCase):
    def test_one_house_without_ropes(self):
        town = Town([0], [])
        self.assertEqual((town.size, town.many), (1, 0))
        self.assertEqual(town.name(0), 0)
        self.assertEqual(town.ropes_at(0), [])

    def test_ten_houses_without_ropes(self):
        town = Town(ten_names(), [])
        self.assertEqual((town.size, town.many), (10, 0))
        self.assertEqual([town.name(house) for house in range(10)], ten_names())
        self.assertEqual([town.ropes_at(house) for house in range(10)], [[]] * 10)

    def test_ten_houses_with_twenty_ropes(self):
        town = Town(ten_names(), twenty_ropes())
        self.assertEqual((town.size, town.many), (10, 20))
        self.assertEqual([town.rope(number) for number in range(20)], twenty_ropes())
        for house in range(10):
            joined = [n for n, rope in enumerate(twenty_ropes()) if house == rope[0] or house == rope[1]]
            self.assertEqual(town.ropes_at(house), joined)

    def test_twenty_ropes_between_the_same_two_houses(self):
        town = Town([1, 0], [(number % 2, 1 - number % 2, 1, 1, 1) for number in range(20)])
        self.assertEqual(town.ropes_at(0), list(range(20)))
        self.assertEqual(town.ropes_at(1), list(range(20)))

    def test_ropes_at_rises_and_takes_either_end(self):
        town = Town(NAMES, ROPES)
        self.assertEqual(town.ropes_at(0), [0, 2, 3])
        self.assertEqual(town.ropes_at(1), [0, 1, 2, 3])
        self.assertEqual(town.ropes_at(2), [1])

    def test_ropes_at_is_not_led_astray_by_cost_wires_and_lets(self):
        town = Town([0, 1, 2, 3], [(0, 1, 2, 3, 3), (0, 2, 1, 1, 1), (3, 2, 1, 1, 1)])
        self.assertEqual([town.ropes_at(house) for house in range(4)], [[0, 1], [0], [1, 2], [2]])

    def test_rope_is_told_as_the_tuple(self):
        town = Town(NAMES, ROPES)
        for number, rope in enumerate(ROPES):
            self.assertIsInstance(town.rope(number), tuple)
            self.assertEqual(town.rope(number), rope)

    def test_far_end_from_either_end(self):
        town = Town(NAMES, ROPES)
        for number, rope in enumerate(ROPES):
            self.assertEqual(town.far_end(number, rope[0]), rope[1])
            self.assertEqual(town.far_end(number, rope[1]), rope[0])

    def test_lets_for_each_group_and_each_number(self):
        town = Town([0, 1], [(0, 1, 1, 1, lets) for lets in range(1, 8)])
        told = [[town.lets(rope, group) for group in range(3)] for rope in range(7)]
        self.assertEqual(told, [
            [True, False, False],
            [False, True, False],
            [True, True, False],
            [False, False, True],
            [True, False, True],
            [False, True, True],
            [True, True, True],
        ])
        for row in told:
            for answer in row:
                self.assertIsInstance(answer, bool)

    def test_names_and_costs_of_sixty_figures(self):
        town = Town([VAST, 0, VAST - 1], [(0, 1, VAST, 1, 1), (2, 0, VAST - 1, 4, 7)])
        self.assertEqual([town.name(house) for house in range(3)], [VAST, 0, VAST - 1])
        self.assertEqual(town.rope(0), (0, 1, VAST, 1, 1))
        self.assertEqual(town.rope(1)[2], VAST - 1)

    def test_names_and_costs_somewhat_beyond_sixty_figures_are_not_refused(self):
        town = Town([VAST + 1, 0], [(0, 1, VAST + 1, 1, 1)])
        self.assertEqual((town.name(0), town.rope(0)[2]), (VAST + 1, VAST + 1))

    def test_arguments_by_their_names(self):
        town = Town(names=NAMES, ropes=ROPES)
        self.assertEqual(town.name(house=1), 3)
        self.assertEqual(town.rope(number=1), ROPES[1])
        self.assertEqual(town.ropes_at(house=2), [1])
        self.assertEqual(town.far_end(rope=1, house=2), 1)
        self.assertIs(town.lets(rope=1, group=2), False)


class TownRefuses(unittest.TestCase):
    def refused(self, names, ropes):
        with self.subTest(names=names, ropes=ropes):
            with self.assertRaises(BadTown):
                Town(names, ropes)

    def refused_wherever_it_stands(self, wrong):
        """The wrong rope alone, and first, in the middle and last among good ones."""
        good = [(0, 1, 1, 1, 1), (1, 2, 1, 4, 7), (2, 0, 5, 2, 3), (1, 0, VAST, 3, 5)]
        Town(NAMES, good)
        self.refused(NAMES, [wrong])
        for place in range(len(good) + 1):
            self.refused(NAMES, good[:place] + [wrong] + good[place:])

    def test_no_house(self):
        self.refused([], [])

    def test_eleven_houses(self):
        self.refused(ten_names() + [2], [])

    def test_a_name_told_twice(self):
        self.refused([4, 4], [])
        self.refused([0, 4, 0], [])
        self.refused(ten_names()[:9] + [90], [])
        self.refused([VAST, 1, VAST], [])

    def test_a_name_below_0(self):
        for below in (-1, -VAST):
            self.refused([below], [])
            self.refused([below, 1, 2], [])
            self.refused([1, below, 2], [])
            self.refused([1, 2, below], [])

    def test_a_house_that_is_none(self):
        for house in (-1, 3, VAST, -VAST):
            self.refused_wherever_it_stands((house, 1, 1, 1, 1))
            self.refused_wherever_it_stands((1, house, 1, 1, 1))

    def test_names_are_no_houses(self):
        self.refused([7, 3], [(7, 3, 1, 1, 1)])

    def test_one_house_twice(self):
        for house in range(3):
            self.refused_wherever_it_stands((house, house, 1, 1, 1))
        self.refused_wherever_it_stands((VAST, VAST, 1, 1, 1))

    def test_a_cost_below_1(self):
        for cost in (0, -1, -VAST):
            self.refused_wherever_it_stands((0, 1, cost, 1, 1))

    def test_wires_that_are_not_1_to_4(self):
        for wires in (0, 5, -1, VAST, -VAST):
            self.refused_wherever_it_stands((0, 1, 1, wires, 1))

    def test_lets_that_are_not_1_to_7(self):
        for lets in (0, 8, -1, 9, VAST, -VAST):
            self.refused_wherever_it_stands((0, 1, 1, 1, lets))

    def test_a_tuple_that_is_too_short_or_too_long(self):
        self.refused_wherever_it_stands(())
        self.refused_wherever_it_stands((0, 1, 1, 1))
        self.refused_wherever_it_stands((0, 1, 1, 1, 1, 1))

    def test_21_ropes(self):
        self.refused(ten_names(), twenty_ropes() + [(0, 1, 1, 1, 1)])

    def test_the_wrong_rope_among_twenty(self):
        for place in (0, 9, 19):
            ropes = twenty_ropes()
            ropes[place] = (0, 10, 1, 1, 1)
            self.refused(ten_names(), ropes)

    def test_one_house_with_a_rope(self):
        self.refused([0], [(0, 0, 1, 1, 1)])
        self.refused([0], [(0, 1, 1, 1, 1)])

    def test_what_is_refused_stays_as_it_was(self):
        names = [3, 3]
        ropes = [(0, 1, 1, 1, 1), (0, 1, 0, 1, 1)]
        self.refused(names, [])
        self.refused([1, 2], ropes)
        self.assertEqual(names, [3, 3])
        self.assertEqual(ropes, [(0, 1, 1, 1, 1), (0, 1, 0, 1, 1)])


class TownKeepsToItself(unittest.TestCase):
    def told(self, town):
        houses = range(3)
        ropes = range(4)
        return (
            town.size,
            town.many,
            [town.name(house) for house in houses],
            [town.rope(number) for number in ropes],
            [town.ropes_at(house) for house in houses],
            [town.far_end(rope, ROPES[rope][0]) for rope in ropes],
            [[town.lets(rope, group) for group in range(3)] for rope in ropes],
        )

    def test_lists_handed_in_are_as_before(self):
        names = list(NAMES)
        ropes = list(ROPES)
        self.told(Town(names, ropes))
        self.assertEqual(names, [7, 3, 9])
        self.assertEqual(ropes, [(0, 1, 4, 2, 7), (2, 1, 5, 1, 1), (1, 0, 6, 4, 6), (0, 1, 4, 2, 7)])

    def test_lists_handed_in_may_be_changed_behind_the_call(self):
        names = list(NAMES)
        ropes = list(ROPES)
        town = Town(names, ropes)
        before = self.told(town)
        names[0] = 5
        ropes[0] = (1, 2, 1, 1, 1)
        self.assertEqual(self.told(town), before)
        names.clear()
        ropes.clear()
        self.assertEqual(self.told(town), before)

    def test_a_told_list_that_was_changed_does_not_change_what_is_told_next(self):
        town = Town(NAMES, ROPES)
        before = self.told(town)
        for house in range(3):
            town.ropes_at(house).append(17)
            town.ropes_at(house).clear()
        self.assertIsNot(town.ropes_at(0), town.ropes_at(0))
        self.assertEqual(self.told(town), before)

    def test_towns_of_the_same_lists_stand_apart(self):
        names = list(NAMES)
        ropes = list(ROPES)
        first = Town(names, ropes)
        ropes.append((0, 2, 1, 1, 1))
        second = Town(names, ropes)
        self.assertEqual((first.many, second.many), (4, 5))
        self.assertEqual((first.ropes_at(2), second.ropes_at(2)), ([1], [1, 4]))


if __name__ == "__main__":
    unittest.main()

import itertools
import random
import unittest

from knotless.errors import NoGroup, NoWire
from knotless.strands import Strands
from knotless.towns import Town
from samples import VAST, made_town

# Ropes of 1, 2, 3 and 4 wires; the groups that they let: 0, 1, 0 and 2, all.
TOWN = Town([7, 3, 9], [(0, 1, 4, 1, 1), (2, 1, 5, 2, 2), (1, 0, 6, 3, 5), (0, 2, 1, 4, 7)])
WIRES = [1, 2, 3, 4]
NO_ROPES = [-1, -2, -4, -5, 4, 5, 17, VAST, -VAST]
NUMBERS = [0, 1, 2, 3, 4, 5, 6, 7, 11, 12, 100, VAST - 3, VAST - 2, VAST - 1, VAST]


def all_told(strands, town=TOWN):
    """Everything that strands tell of themselves."""
    return (
        [strands.standing(rope) for rope in range(town.many)],
        [[strands.wire_for(rope, number) for number in NUMBERS] for rope in range(town.many)],
        [strands.live(group) for group in range(3)],
    )


class AtFirst(unittest.TestCase):
    def test_all_wires_stand(self):
        strands = Strands(TOWN)
        self.assertEqual([strands.standing(rope) for rope in range(4)], [[0], [0, 1], [0, 1, 2], [0, 1, 2, 3]])

    def test_all_ropes_are_live_in_the_groups_that_they_let(self):
        strands = Strands(TOWN)
        self.assertEqual([strands.live(group) for group in range(3)], [[0, 2, 3], [1, 3], [2, 3]])

    def test_a_town_without_ropes(self):
        for names in ([0], [5, 6, 7]):
            strands = Strands(Town(names, []))
            self.assertEqual([strands.live(group) for group in range(3)], [[], [], []])
            for rope in (-1, 0, 1, VAST):
                self.assertRaises(NoWire, strands.standing, rope)
                self.assertRaises(NoWire, strands.wire_for, rope, 0)
                self.assertRaises(NoWire, strands.fall, rope, 0)
                self.assertRaises(NoWire, strands.lay, rope, 0)

    def test_a_town_of_twenty_ropes(self):
        town = Town([1, 2], [(0, 1, 1, number % 4 + 1, 7) for number in range(20)])
        strands = Strands(town)
        self.assertEqual([strands.standing(rope) for rope in range(20)],
                         [list(range(rope % 4 + 1)) for rope in range(20)])
        self.assertEqual(strands.live(1), list(range(20)))
        self.assertIs(strands.fall(19, 3), False)
        self.assertIs(strands.fall(16, 0), True)
        self.assertEqual(strands.live(1), list(range(16)) + [17, 18, 19])

    def test_arguments_by_their_names(self):
        strands = Strands(town=TOWN)
        self.assertIs(strands.fall(rope=1, wire=0), False)
        self.assertEqual(strands.standing(rope=1), [1])
        self.assertEqual(strands.wire_for(rope=1, number=4), 1)
        self.assertIs(strands.lay(rope=1, wire=0), False)
        self.assertEqual(strands.live(group=1), [1, 3])


class FallAndLay(unittest.TestCase):
    def test_a_rope_of_one_wire(self):
        strands = Strands(TOWN)
        for turn in range(3):
            self.assertIs(strands.fall(0, 0), True)
            self.assertEqual(strands.standing(0), [])
            self.assertIs(strands.lay(0, 0), True)
            self.assertEqual(strands.standing(0), [0])

    def test_a_rope_of_four_wires(self):
        strands = Strands(TOWN)
        steps = []
        for wire in (2, 0, 3, 1):
            steps.append((strands.fall(3, wire), strands.standing(3)))
        for wire in (3, 1, 0, 2):
            steps.append((strands.lay(3, wire), strands.standing(3)))
        self.assertEqual(steps, [
            (False, [0, 1, 3]), (False, [1, 3]), (False, [1]), (True, []),
            (True, [3]), (False, [1, 3]), (False, [0, 1, 3]), (False, [0, 1, 2, 3]),
        ])

    def test_down_to_the_last_and_back_in_any_order(self):
        for falls in itertools.permutations(range(4)):
            strands = Strands(TOWN)
            for turn, wire in enumerate(falls):
                self.assertIs(strands.fall(3, wire), turn == 3)
                self.assertEqual(strands.standing(3), sorted(falls[turn + 1:]))
            for lays in itertools.permutations(range(4)):
                for turn, wire in enumerate(lays):
                    self.assertIs(strands.lay(3, wire), turn == 0)
                    self.assertEqual(strands.standing(3), sorted(lays[:turn + 1]))
                for wire in falls:
                    strands.fall(3, wire)
        self.assertEqual(strands.standing(2), [0, 1, 2])

    def test_other_ropes_are_left_alone(self):
        for rope in range(4):
            strands = Strands(TOWN)
            for wire in range(WIRES[rope]):
                strands.fall(rope, wire)
            self.assertEqual([strands.standing(each) for each in range(4)],
                             [[] if each == rope else list(range(WIRES[each])) for each in range(4)])

    def test_a_wire_that_falls_again_when_it_was_laid(self):
        strands = Strands(TOWN)
        strands.fall(1, 1)
        strands.lay(1, 1)
        self.assertIs(strands.fall(1, 1), False)
        self.assertIs(strands.fall(1, 0), True)
        self.assertIs(strands.lay(1, 0), True)
        self.assertIs(strands.fall(1, 0), True)


class Refused(unittest.TestCase):
    def held(self, strands, refusals, town=TOWN):
        """Each is refused, and nothing that is told is changed by it."""
        before = all_told(strands, town)
        for method, values in refusals:
            with self.subTest(method=method.__name__, values=values):
                self.assertRaises(NoWire, method, *values)
                self.assertEqual(all_told(strands, town), before)

    def some_strands(self):
        """All stand; some have fallen; of each rope all have fallen."""
        strands = Strands(TOWN)
        yield strands
        for rope, wire in ((0, 0), (2, 1), (3, 0), (3, 3)):
            strands.fall(rope, wire)
        yield strands
        for rope, wire in ((1, 0), (1, 1), (2, 0), (2, 2), (3, 1), (3, 2)):
            strands.fall(rope, wire)
        yield strands

    def test_ropes_that_are_none(self):
        for strands in self.some_strands():
            for rope in NO_ROPES:
                self.held(strands, [(strands.standing, (rope,))])
                for each in (0, 1, 3, -1, 4, VAST):
                    self.held(strands, [(strands.fall, (rope, each)), (strands.lay, (rope, each)),
                                        (strands.wire_for, (rope, each))])

    def test_wires_that_are_none(self):
        for strands in self.some_strands():
            for rope, wires in enumerate(WIRES):
                for wire in (-1, -2, -wires, wires, wires + 1, 17, VAST, -VAST):
                    self.held(strands, [(strands.fall, (rope, wire)), (strands.lay, (rope, wire))])

    def test_a_wire_that_has_fallen_falls_or_one_that_stands_is_laid(self):
        for strands in self.some_strands():
            for rope, wires in enumerate(WIRES):
                stand = strands.standing(rope)
                for wire in range(wires):
                    self.held(strands, [(strands.lay if wire in stand else strands.fall, (rope, wire))])

    def test_the_number_of_another_ropes_wire(self):
        strands = Strands(TOWN)
        strands.fall(3, 3)
        self.held(strands, [(strands.fall, (0, 3)), (strands.lay, (0, 3)), (strands.lay, (2, 3))])

    def test_behind_a_refusal_all_goes_on(self):
        strands = Strands(TOWN)
        strands.fall(0, 0)
        self.held(strands, [(strands.fall, (0, 0)), (strands.fall, (0, 1)), (strands.lay, (0, 1))])
        self.assertIs(strands.lay(0, 0), True)
        self.held(strands, [(strands.lay, (0, 0))])
        self.assertIs(strands.fall(0, 0), True)


class WireFor(unittest.TestCase):
    def test_numbers_below_at_and_above_the_wires_that_stand(self):
        strands = Strands(TOWN)
        for rope, wires in enumerate(WIRES):
            self.assertEqual([strands.wire_for(rope, number) for number in range(3 * wires)], list(range(wires)) * 3)

    def test_only_those_that_stand_are_counted(self):
        strands = Strands(TOWN)
        strands.fall(3, 1)
        self.assertEqual([strands.wire_for(3, number) for number in range(7)], [0, 2, 3, 0, 2, 3, 0])
        strands.fall(3, 0)
        self.assertEqual([strands.wire_for(3, number) for number in range(5)], [2, 3, 2, 3, 2])
        strands.fall(3, 2)
        self.assertEqual([strands.wire_for(3, number) for number in range(5)], [3, 3, 3, 3, 3])
        strands.lay(3, 0)
        self.assertEqual([strands.wire_for(3, number) for number in range(5)], [0, 3, 0, 3, 0])

    def test_none_stands(self):
        strands = Strands(TOWN)
        strands.fall(0, 0)
        strands.fall(1, 1)
        strands.fall(1, 0)
        for number in NUMBERS:
            self.assertIsNone(strands.wire_for(0, number))
            self.assertIsNone(strands.wire_for(1, number))
        strands.lay(1, 1)
        self.assertEqual(strands.wire_for(1, 0), 1)

    def test_numbers_of_sixty_figures(self):
        # By nines alone: the rest by 2 is 1, by 3 it is 0, by 4 it is 3.
        strands = Strands(TOWN)
        self.assertEqual([strands.wire_for(rope, VAST) for rope in range(4)], [0, 1, 0, 3])
        self.assertEqual([strands.wire_for(rope, VAST - 1) for rope in range(4)], [0, 0, 2, 2])
        strands.fall(3, 2)
        self.assertEqual([strands.wire_for(3, VAST - less) for less in range(4)], [0, 3, 1, 0])

    def test_a_number_below_0_is_not_refused(self):
        strands = Strands(TOWN)
        self.assertIn(strands.wire_for(3, -1), [0, 1, 2, 3])


class Live(unittest.TestCase):
    def by_groups(self):
        """A rope of each of the numbers 1 to 7, of 1, 2, 1, 2 .. wires."""
        return Town([4, 5], [(0, 1, 1, 2 - lets % 2, lets) for lets in range(1, 8)])

    def test_each_group_and_each_number(self):
        strands = Strands(self.by_groups())
        self.assertEqual(strands.live(0), [0, 2, 4, 6])
        self.assertEqual(strands.live(1), [1, 2, 5, 6])
        self.assertEqual(strands.live(2), [3, 4, 5, 6])

    def test_behind_the_fall_of_each_rope(self):
        for rope in range(7):
            strands = Strands(self.by_groups())
            for wire in strands.standing(rope):
                strands.fall(rope, wire)
            self.assertEqual(strands.live(0), [each for each in (0, 2, 4, 6) if each != rope])
            self.assertEqual(strands.live(1), [each for each in (1, 2, 5, 6) if each != rope])
            self.assertEqual(strands.live(2), [each for each in (3, 4, 5, 6) if each != rope])

    def test_a_rope_stands_as_long_as_one_wire_does(self):
        for last in range(4):
            strands = Strands(TOWN)
            for wire in range(4):
                if wire != last:
                    strands.fall(3, wire)
                    self.assertEqual([strands.live(group) for group in range(3)], [[0, 2, 3], [1, 3], [2, 3]])
            strands.fall(3, last)
            self.assertEqual([strands.live(group) for group in range(3)], [[0, 2], [1], [2]])
            strands.lay(3, last)
            self.assertEqual([strands.live(group) for group in range(3)], [[0, 2, 3], [1, 3], [2, 3]])

    def test_all_have_fallen(self):
        strands = Strands(TOWN)
        for rope, wires in enumerate(WIRES):
            for wire in range(wires):
                strands.fall(rope, wire)
        self.assertEqual([strands.live(group) for group in range(3)], [[], [], []])

    def test_rising_whatever_was_laid_last(self):
        strands = Strands(TOWN)
        for wire in range(3):
            strands.fall(2, wire)
        strands.fall(0, 0)
        strands.lay(2, 1)
        strands.lay(0, 0)
        self.assertEqual(strands.live(0), [0, 2, 3])

    def test_groups_that_are_none(self):
        for town in (TOWN, Town([1], [])):
            strands = Strands(town)
            before = all_told(strands, town)
            for group in (-1, -2, -3, -4, 3, 4, 7, VAST, -VAST):
                self.assertRaises(NoGroup, strands.live, group)
            self.assertEqual(all_told(strands, town), before)


class KeptApart(unittest.TestCase):
    def told_of_town(self):
        return ([TOWN.rope(rope) for rope in range(4)], [TOWN.ropes_at(house) for house in range(3)],
                [[TOWN.lets(rope, group) for group in range(3)] for rope in range(4)], TOWN.many, TOWN.size)

    def test_two_strands_of_one_town(self):
        one = Strands(TOWN)
        other = Strands(TOWN)
        before = all_told(other)
        for wire in (0, 1, 2):
            one.fall(2, wire)
        self.assertEqual(all_told(other), before)
        other.fall(3, 0)
        self.assertEqual(one.standing(3), [0, 1, 2, 3])
        self.assertEqual((one.standing(2), other.standing(2)), ([], [0, 1, 2]))
        self.assertEqual((one.live(2), other.live(2)), ([3], [2, 3]))
        self.assertEqual(all_told(Strands(TOWN)), before)

    def test_the_town_stays(self):
        before = self.told_of_town()
        strands = Strands(TOWN)
        for rope, wires in enumerate(WIRES):
            for wire in range(wires):
                strands.fall(rope, wire)
        strands.lay(3, 2)
        all_told(strands)
        self.assertEqual(self.told_of_town(), before)

    def test_told_lists_are_the_askers_own(self):
        strands = Strands(TOWN)
        strands.fall(3, 1)
        before = all_told(strands)
        for rope in range(4):
            strands.standing(rope).append(9)
            strands.standing(rope).clear()
            self.assertIsNot(strands.standing(rope), strands.standing(rope))
        for group in range(3):
            strands.live(group).append(9)
            strands.live(group).clear()
            self.assertIsNot(strands.live(group), strands.live(group))
        self.assertEqual(all_told(strands), before)

    def test_a_told_list_stays_when_a_wire_falls_or_is_laid(self):
        strands = Strands(TOWN)
        stood = strands.standing(0)
        lived = strands.live(0)
        strands.fall(0, 0)
        self.assertEqual((stood, lived), ([0], [0, 2, 3]))
        stood = strands.standing(0)
        strands.lay(0, 0)
        self.assertEqual(stood, [])


class ManyDeeds(unittest.TestCase):
    def held(self, strands, town, up):
        """Point [13], from the wires (rope, wire) that stand by what was done."""
        for rope in range(town.many):
            stand = [wire for wire in range(4) if (rope, wire) in up]
            self.assertEqual(strands.standing(rope), stand)
            for number in (0, 1, 5, 11, VAST):
                told = stand[number % len(stand)] if stand else None
                self.assertEqual(strands.wire_for(rope, number), told)
        for group in range(3):
            self.assertEqual(strands.live(group), sorted(
                {rope for rope, wire in up if town.rope(rope)[4] // (1, 2, 4)[group] % 2 == 1}))

    def done(self, strands, town, up, falls, rope, wire):
        """One deed, good or refused; whether the rope's other wires have all fallen is what it tells."""
        there = 0 <= rope < town.many and 0 <= wire < town.rope(rope)[3]
        if not there or falls != ((rope, wire) in up):
            self.assertRaises(NoWire, strands.fall if falls else strands.lay, rope, wire)
            return
        told = strands.fall(rope, wire) if falls else strands.lay(rope, wire)
        up.symmetric_difference_update({(rope, wire)})
        self.assertIs(told, not any(each == rope for each, other in up - {(rope, wire)}))

    def test_made_towns(self):
        made = random.Random(13)
        for turn in range(60):
            town = made_town(made)
            strands = Strands(town)
            up = {(rope, wire) for rope in range(town.many) for wire in range(town.rope(rope)[3])}
            self.held(strands, town, up)
            share = made.choice([0.3, 0.5, 0.8])
            for deed in range(60):
                self.done(strands, town, up, made.random() < share, made.randint(-1, town.many), made.randint(-1, 4))
                self.held(strands, town, up)


if __name__ == "__main__":
    unittest.main()

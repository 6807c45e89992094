import itertools
import random
import unittest

from knotless.rounds import called, rounds, settled
from knotless.rows import resting
from knotless.towns import Town
from samples import (
    VAST, called_by_words, calls_of_rounds, half_right_rows, least_by_waiting, least_by_ways, led_to, made_calls,
    made_live, made_rows, made_town, other_end, own_rows, parts_by_words, rest_by_words, rests_by_words,
    rounds_by_words,
)

CHAIN = Town([5, 8, 6, 7], [(0, 1, 2, 1, 7), (1, 2, 3, 1, 7), (3, 2, 4, 1, 7)])


class Called(unittest.TestCase):
    def test_no_calls(self):
        rows = own_rows(CHAIN)
        told = called(CHAIN, [0, 1, 2], rows, [])
        self.assertEqual(told, rows)
        self.assertIsNot(told, rows)
        stale = [(1, 1, 1, 2)] * 4
        self.assertEqual(called(CHAIN, [0, 1, 2], stale, []), stale)

    def test_one_call_changes_one_row_alone(self):
        rows = own_rows(CHAIN)
        self.assertEqual(called(CHAIN, [0, 1, 2], rows, [1]), [rows[0], (5, 2, 1, 0), rows[2], rows[3]])
        self.assertEqual(called(CHAIN, [0, 1, 2], rows, [3]), [rows[0], rows[1], rows[2], (6, 4, 1, 2)])
        self.assertEqual(called(CHAIN, [0, 1, 2], rows, [0]), rows)

    def test_each_call_goes_by_the_rows_behind_the_one_ahead(self):
        rows = own_rows(CHAIN)
        self.assertEqual(called(CHAIN, [0, 1, 2], rows, [1, 2, 3]),
                         [(5, 0, 0, None), (5, 2, 1, 0), (5, 5, 2, 1), (5, 9, 3, 2)])
        self.assertEqual(called(CHAIN, [0, 1, 2], rows, [3, 2, 1]),
                         [(5, 0, 0, None), (5, 2, 1, 0), (6, 0, 0, None), (6, 4, 1, 2)])

    def test_a_house_called_again(self):
        rows = own_rows(CHAIN)
        self.assertEqual(called(CHAIN, [0, 1, 2], rows, [2, 1, 1, 2, 2])[2], (5, 5, 2, 1))

    def test_a_round_and_a_rest_behind_it(self):
        told = called(CHAIN, [0, 1, 2], own_rows(CHAIN), [0, 1, 2, 3])
        self.assertEqual(rounds(4, [0, 1, 2, 3]), 1)
        self.assertIs(resting(CHAIN, [0, 1, 2], told), True)
        for calls in ([0], [3, 2, 1, 0], [1, 1, 2, 3, 0, 2]):
            self.assertEqual(called(CHAIN, [0, 1, 2], told, calls), told)

    def test_a_town_of_one_house(self):
        town = Town([4], [])
        for row in ((0, 0, 0, None), (4, 0, 0, None), (9, 3, 0, None)):
            self.assertEqual(called(town, [], [row], []), [row])
            self.assertEqual(called(town, [], [row], [0]), [(4, 0, 0, None)])
            self.assertEqual(called(town, [], [row], [0, 0, 0]), [(4, 0, 0, None)])

    def test_stale_words_go_round_only_so_long(self):
        # Two houses hand each other a head that is none's; hops end it.
        town = Town([5, 6, 7], [(0, 1, 1, 1, 1)])
        rows = [(0, 0, 0, None), (0, 0, 0, None), (7, 0, 0, None)]
        self.assertEqual(called(town, [0], rows, [0]), [(0, 1, 1, 0), (0, 0, 0, None), (7, 0, 0, None)])
        self.assertEqual(called(town, [0], rows, [0, 1]), [(0, 1, 1, 0), (0, 2, 2, 0), (7, 0, 0, None)])
        self.assertEqual(called(town, [0], rows, [0, 1, 0]), [(5, 0, 0, None), (0, 2, 2, 0), (7, 0, 0, None)])
        self.assertEqual(called(town, [0], rows, [0, 1, 0, 1]), [(5, 0, 0, None), (5, 1, 1, 0), (7, 0, 0, None)])

    def test_calls_against_calls_told_one_after_another(self):
        made = random.Random(31)
        for turn in range(200):
            town = made_town(made)
            live = made_live(made, town)
            rows = made_rows(made, town)
            calls = made_calls(made, town.size)
            told = called(town, live, rows, calls)
            self.assertEqual(told, called_by_words(town, live, rows, calls))
            one_by_one = rows
            for house in calls:
                one_by_one = called(town, live, one_by_one, [house])
            self.assertEqual(told, one_by_one)
            cut = made.randint(0, len(calls))
            self.assertEqual(told, called(town, live, called(town, live, rows, calls[:cut]), calls[cut:]))

    def test_three_hundred_calls(self):
        made = random.Random(32)
        town = Town(list(range(10)), [(house, (house + 1) % 10, 1 + house % 3, 1, 1) for house in range(10)])
        calls = [made.randrange(10) for number in range(300)]
        rows = made_rows(made, town)
        self.assertEqual(called(town, list(range(10)), rows, calls),
                         called_by_words(town, list(range(10)), rows, calls))


class Rounds(unittest.TestCase):
    def test_no_calls(self):
        self.assertEqual(rounds(1, []), 0)
        self.assertEqual(rounds(10, []), 0)

    def test_calls_that_name_not_each_house(self):
        self.assertEqual(rounds(3, [0, 1, 0, 1, 1]), 0)
        self.assertEqual(rounds(2, [1, 1, 1]), 0)
        self.assertEqual(rounds(10, list(range(9)) * 5), 0)

    def test_a_round(self):
        self.assertEqual(rounds(3, [2, 0, 1]), 1)
        self.assertEqual(rounds(3, [0, 0, 1, 0, 2]), 1)

    def test_what_is_left_at_the_end_is_none(self):
        self.assertEqual(rounds(3, [2, 0, 1, 1, 0]), 1)
        self.assertEqual(rounds(3, [2, 0, 1, 1, 0, 2]), 2)

    def test_the_shortest_beginning_is_cut_off(self):
        # Each house is named twice or more in all of these, yet a house named again within a round counts for no other.
        self.assertEqual(rounds(2, [0, 1, 1, 0]), 2)
        self.assertEqual(rounds(2, [0, 0, 1, 1]), 1)
        self.assertEqual(rounds(3, [0, 1, 0, 1, 2, 2]), 1)
        self.assertEqual(rounds(3, [0, 1, 0, 1, 2, 2, 1]), 1)

    def test_a_town_of_one_house(self):
        for length in range(5):
            self.assertEqual(rounds(1, [0] * length), length)

    def test_each_short_list_of_calls(self):
        for size, most in ((1, 5), (2, 7), (3, 6)):
            for length in range(most + 1):
                for calls in itertools.product(range(size), repeat=length):
                    self.assertEqual(rounds(size, list(calls)), rounds_by_words(size, list(calls)))

    def test_many_made_calls(self):
        made = random.Random(33)
        for turn in range(200):
            size = made.randint(1, 10)
            calls = [made.randrange(size) for number in range(made.randint(0, 300))]
            self.assertEqual(rounds(size, calls), rounds_by_words(size, calls))
            many = made.randint(0, 12)
            self.assertEqual(rounds(size, calls_of_rounds(made, size, many)), many)

    def test_a_size_of_sixty_figures(self):
        self.assertEqual(rounds(VAST, [0, VAST - 1, 5]), 0)


class Rest(unittest.TestCase):
    def hold_rest(self, made, town, live, rows):
        """Behind twice as many rounds as houses, and behind each round, against point [9]."""
        size = town.size
        rest = rest_by_words(town, live)
        many = 2 * size
        least = [min(town.name(each) for each in led_to(town, live, house)) for house in range(size)]
        calls = []
        for done in range(1, many + 1):
            calls = calls + calls_of_rounds(made, size, 1)
            self.assertEqual(rounds(size, calls), done)
            told = called(town, live, rows, calls)
            for house in range(size):
                if told[house][0] < least[house]:
                    self.assertGreaterEqual(told[house][2], done)
        self.assertIs(resting(town, live, told), True)
        self.assertTrue(rests_by_words(town, live, told))
        self.assertEqual(told, rest)
        self.assertEqual(called(town, live, told, made_calls(made, size)), told)

    def test_from_any_rows(self):
        made = random.Random(34)
        for turn in range(120):
            town = made_town(made)
            live = made_live(made, town)
            self.hold_rest(made, town, live, made_rows(made, town))
            self.hold_rest(made, town, live, half_right_rows(made, town, live))

    def test_from_heads_that_are_none_and_less_than_each(self):
        made = random.Random(35)
        for turn in range(80):
            town = made_town(made)
            live = made_live(made, town)
            rows = [(made.randrange(3), made.randrange(3), made.randrange(town.size), None)
                    for house in range(town.size)]
            self.hold_rest(made, town, live, rows)
            self.hold_rest(made, town, live, [(0, 0, 0, None)] * town.size)

    def test_from_rows_that_name_ropes_that_are_not_the_houses(self):
        made = random.Random(36)
        for turn in range(80):
            town = made_town(made)
            live = made_live(made, town)
            rows = []
            for house in range(town.size):
                foreign = [rope for rope in range(town.many) if house not in town.rope(rope)[:2]]
                rows.append((made.choice([0, town.name(0)]), made.randrange(3), made.randrange(town.size),
                             made.choice(foreign) if foreign else None))
            self.hold_rest(made, town, live, rows)

    def test_from_the_rest_of_other_live_ropes(self):
        made = random.Random(37)
        for turn in range(120):
            town = made_town(made)
            self.hold_rest(made, town, made_live(made, town), rest_by_words(town, made_live(made, town)))

    def test_each_rows_of_a_small_town(self):
        town = Town([4, 3], [(0, 1, 1, 1, 1), (1, 0, 1, 1, 1)])
        every = list(itertools.product((0, 3, 4, 9), (0, 1), (0, 1), (None, 0, 1)))
        for rows in itertools.product(every, repeat=2):
            for calls in ([0, 1] * 4, [1, 0] * 4, [0, 1, 1, 0] * 2):
                self.assertEqual(called(town, [0, 1], list(rows), calls), [(3, 1, 1, 0), (3, 0, 0, None)])

    def test_a_ring_of_ten_with_a_stale_head(self):
        town = Town([9, 8, 7, 6, 5, 4, 3, 2, 1, 10], [(house, (house + 1) % 10, 1, 1, 1) for house in range(10)])
        live = list(range(10))
        rows = [(0, 0, 0, None)] * 10
        for order in (list(range(10)), list(range(9, -1, -1))):
            self.assertEqual(called(town, live, rows, order * 20), rest_by_words(town, live))
            self.assertNotEqual(called(town, live, rows, order * 4), rest_by_words(town, live))


class Settled(unittest.TestCase):
    def hold_words(self, town, live, least):
        """Each row of settled against point [9], with the least costs and hops told by `least`."""
        told = settled(town, live)
        self.assertIsInstance(told, list)
        self.assertEqual(len(told), town.size)
        for house, row in enumerate(told):
            self.assertIsInstance(row, tuple)
            head, cost, hops, by = row
            first = min(led_to(town, live, house), key=town.name)
            self.assertEqual(head, town.name(first))
            self.assertEqual((cost, hops), least(town, live, first, house))
            made = []
            for rope in live:
                if house in town.rope(rope)[:2]:
                    row_there = told[other_end(town, rope, house)]
                    if (row_there[0], row_there[1] + town.rope(rope)[2], row_there[2] + 1) == row[:3]:
                        made.append(rope)
            if house == first:
                self.assertIsNone(by)
            else:
                self.assertEqual(by, min(made))
        self.assertEqual(told, rest_by_words(town, live))

    def test_a_chain(self):
        self.assertEqual(settled(CHAIN, [0, 1, 2]), [(5, 0, 0, None), (5, 2, 1, 0), (5, 5, 2, 1), (5, 9, 3, 2)])
        self.assertEqual(settled(CHAIN, [1, 2]), [(5, 0, 0, None), (6, 3, 1, 1), (6, 0, 0, None), (6, 4, 1, 2)])

    def test_no_live_rope(self):
        self.assertEqual(settled(CHAIN, []), own_rows(CHAIN))

    def test_a_town_of_one_house(self):
        self.assertEqual(settled(Town([4], []), []), [(4, 0, 0, None)])

    def test_less_cost_over_more_ropes(self):
        town = Town([0, 1, 2, 3], [(0, 3, 9, 1, 1), (0, 1, 3, 1, 1), (1, 2, 3, 1, 1), (2, 3, 2, 1, 1)])
        self.assertEqual(settled(town, [0, 1, 2, 3])[3], (0, 8, 3, 3))

    def test_like_cost_over_fewer_ropes(self):
        town = Town([0, 1, 2, 3], [(2, 3, 2, 1, 1), (0, 1, 3, 1, 1), (1, 2, 3, 1, 1), (0, 3, 8, 1, 1)])
        self.assertEqual(settled(town, [0, 1, 2, 3])[3], (0, 8, 1, 3))

    def test_like_cost_and_like_number_by_the_least_rope(self):
        town = Town([0, 1, 2, 3], [(0, 2, 1, 1, 1), (3, 2, 1, 1, 1), (1, 3, 1, 1, 1), (0, 1, 1, 1, 1)])
        self.assertEqual(settled(town, [0, 1, 2, 3])[3], (0, 2, 2, 1))

    def test_the_longest_chain(self):
        town = Town(list(range(10)), [(house, house + 1, VAST, 1, 1) for house in range(9)])
        self.assertEqual(settled(town, list(range(9)))[9], (0, 9 * VAST, 9, 8))
        town = Town(list(range(9, -1, -1)), [(house, house + 1, 1, 1, 1) for house in range(9)])
        self.assertEqual(settled(town, list(range(9)))[0], (0, 9, 9, 0))

    def test_the_words_of_point_9_out_of_all_ways(self):
        made = random.Random(38)
        for turn in range(150):
            town = made_town(made, 5)
            self.hold_words(town, made_live(made, town)[:9], least_by_ways)

    def test_the_words_of_point_9_in_great_towns(self):
        made = random.Random(39)
        for turn in range(200):
            town = made_town(made)
            self.hold_words(town, made_live(made, town),
                            lambda held, live, first, house: least_by_waiting(held, live, first)[house])

    def test_it_rests_and_is_told_alike_from_any_rows_brought_to_rest(self):
        made = random.Random(40)
        for turn in range(120):
            town = made_town(made)
            live = made_live(made, town)
            told = settled(town, live)
            self.assertIs(resting(town, live, told), True)
            for rows in (own_rows(town), made_rows(made, town), half_right_rows(made, town, live)):
                calls = calls_of_rounds(made, town.size, 2 * town.size)
                self.assertEqual(called(town, live, rows, calls), told)

    def test_one_head_in_each_part(self):
        made = random.Random(41)
        for turn in range(100):
            town = made_town(made)
            live = made_live(made, town)
            own = [row for row in settled(town, live) if row[3] is None]
            self.assertEqual(len(own), len(set(parts_by_words(town, live))))


class RoundsKeepToThemselves(unittest.TestCase):
    def test_what_is_handed_in_is_as_before(self):
        live = [0, 1, 2]
        rows = [(1, 1, 1, 2), (5, 0, 0, None), (0, 0, 2, 0), (9, 9, 3, 1)]
        calls = [3, 1, 2, 0, 0, 1]
        kept = list(rows)
        called(CHAIN, live, rows, calls)
        rounds(4, calls)
        settled(CHAIN, live)
        self.assertEqual((live, rows, calls), ([0, 1, 2], kept, [3, 1, 2, 0, 0, 1]))
        self.assertEqual([CHAIN.name(house) for house in range(4)], [5, 8, 6, 7])
        self.assertEqual([CHAIN.rope(rope) for rope in range(3)],
                         [(0, 1, 2, 1, 7), (1, 2, 3, 1, 7), (3, 2, 4, 1, 7)])

    def test_a_told_list_that_was_changed_does_not_change_what_is_told_next(self):
        live = [0, 1, 2]
        rows = own_rows(CHAIN)
        for tell in (lambda: called(CHAIN, live, rows, []), lambda: called(CHAIN, live, rows, [1, 2]),
                     lambda: settled(CHAIN, live), lambda: settled(CHAIN, [])):
            told = tell()
            kept = list(told)
            told[0] = (1, 1, 1, 1)
            self.assertEqual(tell(), kept)
            told.clear()
            self.assertEqual(tell(), kept)
            self.assertEqual((live, rows), ([0, 1, 2], own_rows(CHAIN)))

    def test_lists_handed_in_may_be_emptied_behind_the_call(self):
        live = [0, 1, 2]
        rows = own_rows(CHAIN)
        calls = [1, 2]
        told = (called(CHAIN, live, rows, []), called(CHAIN, live, rows, calls), settled(CHAIN, live))
        kept = tuple(list(each) for each in told)
        live.clear()
        rows.clear()
        calls.clear()
        self.assertEqual(told, kept)

    def test_arguments_by_their_names(self):
        rows = own_rows(CHAIN)
        self.assertEqual(called(town=CHAIN, live=[0], rows=rows, calls=[1])[1], (5, 2, 1, 0))
        self.assertEqual(rounds(size=2, calls=[0, 1]), 1)
        self.assertEqual(settled(town=CHAIN, live=[0])[1], (5, 2, 1, 0))


if __name__ == "__main__":
    unittest.main()

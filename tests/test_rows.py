import itertools
import random
import unittest

from knotless.rows import due, offer, own_row, resting
from knotless.towns import Town
from samples import (
    VAST, called_by_words, due_by_words, half_right_rows, made_live, made_rows, made_town, own_rows, rest_by_words,
    rests_by_words,
)

# House 0 lies in the midst of 1, 2 and 3; ropes 1 and 4 join the same two houses.
STAR = Town([50, 60, 70, 80], [(0, 1, 4, 1, 7), (2, 0, 4, 1, 7), (0, 3, 1, 1, 7), (1, 2, 1, 1, 7), (0, 2, 4, 1, 7)])
ALL = [0, 1, 2, 3, 4]


class OwnRow(unittest.TestCase):
    def test_each_house(self):
        self.assertEqual([own_row(STAR, house) for house in range(4)],
                         [(50, 0, 0, None), (60, 0, 0, None), (70, 0, 0, None), (80, 0, 0, None)])

    def test_a_town_of_one_house(self):
        self.assertEqual(own_row(Town([0], []), 0), (0, 0, 0, None))

    def test_names_of_sixty_figures(self):
        town = Town([VAST, VAST - 1], [])
        self.assertEqual(own_row(town, 0), (VAST, 0, 0, None))
        self.assertEqual(own_row(town, 1), (VAST - 1, 0, 0, None))

    def test_kinds(self):
        told = own_row(STAR, 1)
        self.assertIsInstance(told, tuple)
        self.assertIsNone(told[3])


class Offer(unittest.TestCase):
    def test_head_cost_hops_and_rope(self):
        self.assertEqual(offer(STAR, (9, 5, 1, 3), 0), (9, 9, 2, 0))
        self.assertEqual(offer(STAR, (9, 5, 1, None), 2), (9, 6, 2, 2))
        self.assertIsInstance(offer(STAR, (9, 5, 1, None), 2), tuple)

    def test_the_rows_own_rope_does_not_matter(self):
        for by in [None] + ALL:
            self.assertEqual(offer(STAR, (9, 5, 1, by), 4), (9, 9, 2, 4))

    def test_hops_below_at_and_above_the_number_of_houses(self):
        for size in range(2, 11):
            town = Town(list(range(size)), [(0, size - 1, 3, 1, 1)])
            for hops in range(size - 1):
                self.assertEqual(offer(town, (5, 2, hops, None), 0), (5, 5, hops + 1, 0))
            self.assertIsNone(offer(town, (5, 2, size - 1, None), 0))
            self.assertIsNone(offer(town, (5, 2, size, None), 0))
            self.assertIsNone(offer(town, (5, 2, VAST, None), 0))

    def test_a_town_of_one_house_makes_no_offer(self):
        town = Town([4], [])
        for hops in (0, 1, 2):
            self.assertIsNone(offer(town, (4, 0, hops, None), 0))

    def test_heads_and_costs_of_sixty_figures(self):
        town = Town([1, VAST], [(0, 1, VAST, 1, 1)])
        self.assertEqual(offer(town, (VAST, VAST, 0, None), 0), (VAST, 2 * VAST, 1, 0))
        self.assertEqual(offer(town, (0, 0, 0, None), 0), (0, VAST, 1, 0))


class Due(unittest.TestCase):
    def held(self, town, live, rows, house, expected):
        self.assertEqual(due_by_words(town, live, rows, house), expected)
        self.assertEqual(due(town, live, rows, house), expected)
        self.assertIsInstance(due(town, live, rows, house), tuple)

    def test_the_own_row_is_least(self):
        self.held(STAR, ALL, own_rows(STAR), 0, (50, 0, 0, None))

    def test_the_own_row_is_taken_whatever_the_house_holds(self):
        rows = own_rows(STAR)
        rows[0] = (0, 0, 0, 3)
        self.held(STAR, ALL, rows, 0, (50, 0, 0, None))

    def test_the_own_row_is_below_an_offer_of_its_own_name(self):
        rows = [(9, 9, 3, 0), (50, 0, 0, None), (50, 0, 0, 0), (50, 0, 1, 2)]
        self.held(STAR, ALL, rows, 0, (50, 0, 0, None))

    def test_offers_that_differ_in_head(self):
        rows = [(50, 0, 0, None), (20, 9, 2, None), (21, 0, 0, None), (22, 0, 0, None)]
        self.held(STAR, ALL, rows, 0, (20, 13, 3, 0))

    def test_a_head_just_above_and_just_below_the_own_name(self):
        rows = own_rows(STAR)
        rows[3] = (51, 0, 0, None)
        self.held(STAR, ALL, rows, 0, (50, 0, 0, None))
        rows[3] = (49, 0, 0, None)
        self.held(STAR, ALL, rows, 0, (49, 1, 1, 2))

    def test_offers_that_differ_in_cost(self):
        rows = [(50, 0, 0, None), (20, 5, 0, None), (20, 6, 0, None), (20, 7, 2, None)]
        self.held(STAR, ALL, rows, 0, (20, 8, 3, 2))

    def test_offers_that_differ_in_hops(self):
        rows = [(50, 0, 0, None), (20, 5, 2, None), (20, 5, 1, None), (20, 8, 2, None)]
        self.held(STAR, ALL, rows, 0, (20, 9, 2, 1))

    def test_offers_that_differ_only_in_the_rope(self):
        rows = [(50, 0, 0, None), (20, 5, 1, None), (20, 5, 1, None), (20, 8, 1, None)]
        self.held(STAR, ALL, rows, 0, (20, 9, 2, 0))
        self.held(STAR, [1, 2, 3, 4], rows, 0, (20, 9, 2, 1))
        self.held(STAR, [2, 3, 4], rows, 0, (20, 9, 2, 2))

    def test_several_ropes_between_the_same_two_houses(self):
        town = Town([5, 3], [(0, 1, 7, 1, 1), (1, 0, 6, 1, 1), (0, 1, 6, 1, 1), (1, 0, 9, 1, 1)])
        rows = own_rows(town)
        self.held(town, [0, 1, 2, 3], rows, 0, (3, 6, 1, 1))
        self.held(town, [0, 2, 3], rows, 0, (3, 6, 1, 2))
        self.held(town, [0, 3], rows, 0, (3, 7, 1, 0))
        self.held(town, [3], rows, 0, (3, 9, 1, 3))

    def test_no_live_rope(self):
        rows = [(0, 0, 0, None)] * 4
        for house in range(4):
            self.held(STAR, [], rows, house, own_row(STAR, house))

    def test_live_ropes_that_are_not_the_houses(self):
        rows = [(0, 0, 0, None)] * 4
        self.held(STAR, [3], rows, 0, (50, 0, 0, None))
        self.held(STAR, [0, 1, 3, 4], rows, 3, (80, 0, 0, None))

    def test_a_neighbour_with_too_many_hops_offers_nothing(self):
        rows = [(50, 0, 0, None), (0, 0, 3, None), (0, 0, 3, None), (1, 5, 2, None)]
        self.held(STAR, ALL, rows, 0, (1, 6, 3, 2))
        self.held(STAR, [0, 1, 3, 4], rows, 0, (50, 0, 0, None))

    def test_a_house_may_take_its_own_stale_word_back_from_a_neighbour(self):
        rows = [(3, 1, 1, 2), (60, 0, 0, None), (70, 0, 0, None), (3, 2, 2, 2)]
        self.held(STAR, [2], rows, 0, (3, 3, 3, 2))

    def test_a_town_of_one_house(self):
        self.held(Town([8], []), [], [(0, 0, 0, None)], 0, (8, 0, 0, None))

    def test_heads_and_costs_of_sixty_figures(self):
        town = Town([VAST, VAST - 1], [(0, 1, VAST, 1, 1)])
        self.held(town, [0], [(VAST, 0, 0, None), (VAST - 2, VAST, 0, None)], 0, (VAST - 2, 2 * VAST, 1, 0))

    def test_costs_and_hops_somewhat_beyond_their_bounds_are_not_refused(self):
        rows = [(50, 0, 0, None), (0, 0, 4, None), (70, 0, 0, None), (50, -1, -1, None)]
        self.assertEqual(due(STAR, [0, 2], rows, 0)[:3], (50, 0, 0))

    def test_each_list_of_offers_of_a_small_town(self):
        town = Town([2, 9, 5], [(0, 1, 1, 1, 1), (2, 0, 1, 1, 1), (0, 1, 2, 1, 1)])
        every = list(itertools.product((1, 2, 3), (0, 1), (0, 1, 2), (None,)))
        for one, other in itertools.product(every, repeat=2):
            rows = [(2, 0, 0, None), one, other]
            self.assertEqual(due(town, [0, 1, 2], rows, 0), due_by_words(town, [0, 1, 2], rows, 0))

    def test_many_made_towns_and_rows(self):
        made = random.Random(21)
        for turn in range(400):
            town = made_town(made)
            live = made_live(made, town)
            rows = made_rows(made, town)
            for house in range(town.size):
                self.assertEqual(due(town, live, rows, house), due_by_words(town, live, rows, house))


class Resting(unittest.TestCase):
    def spoiled(self, row):
        """The row with one of its four things changed."""
        head, cost, hops, by = row
        changed = [(head + 1, cost, hops, by), (head, cost + 1, hops, by), (head, cost, hops + 1, by)]
        changed += [(head - 1, cost, hops, by)] if head else []
        changed += [(head, cost - 1, hops, by)] if cost else []
        changed += [(head, cost, hops - 1, by)] if hops else []
        changed += [(head, cost, hops, None)] if by is not None else [(head, cost, hops, 0)]
        changed += [(head, cost, hops, by + 1)] if by is not None else []
        return changed

    def test_true_at_rest(self):
        rows = [(50, 0, 0, None), (50, 4, 1, 0), (50, 4, 1, 1), (50, 1, 1, 2)]
        self.assertIs(resting(STAR, ALL, rows), True)

    def test_each_row_spoiled_in_each_thing(self):
        rows = [(50, 0, 0, None), (50, 4, 1, 0), (50, 4, 1, 1), (50, 1, 1, 2)]
        for house in range(4):
            for row in self.spoiled(rows[house]):
                with self.subTest(house=house, row=row):
                    self.assertIs(resting(STAR, ALL, rows[:house] + [row] + rows[house + 1:]), False)

    def test_the_greater_of_two_like_ropes_is_no_rest(self):
        self.assertIs(resting(STAR, ALL, [(50, 0, 0, None), (50, 4, 1, 0), (50, 4, 1, 4), (50, 1, 1, 2)]), False)
        self.assertIs(resting(STAR, [0, 2, 3, 4], [(50, 0, 0, None), (50, 4, 1, 0), (50, 4, 1, 4), (50, 1, 1, 2)]),
                      True)

    def test_own_rows_rest_without_live_ropes_alone(self):
        self.assertIs(resting(STAR, [], own_rows(STAR)), True)
        self.assertIs(resting(STAR, [2], own_rows(STAR)), False)

    def test_a_town_of_one_house(self):
        town = Town([8], [])
        self.assertIs(resting(town, [], [(8, 0, 0, None)]), True)
        for row in ((7, 0, 0, None), (8, 1, 0, None), (9, 0, 0, None)):
            self.assertIs(resting(town, [], [row]), False)

    def test_a_rope_that_fell_or_was_laid_ends_the_rest(self):
        rows = [(50, 0, 0, None), (50, 4, 1, 0), (50, 4, 1, 1), (50, 1, 1, 2)]
        self.assertIs(resting(STAR, [0, 1, 3, 4], rows), False)
        self.assertIs(resting(STAR, [0, 1, 2], rows), True)

    def test_rest_and_spoiled_rest_of_many_made_towns(self):
        made = random.Random(22)
        for turn in range(150):
            town = made_town(made)
            live = made_live(made, town)
            rows = rest_by_words(town, live)
            self.assertIs(resting(town, live, rows), True)
            house = made.randrange(town.size)
            for row in self.spoiled(rows[house]):
                self.assertIs(resting(town, live, rows[:house] + [row] + rows[house + 1:]), False)

    def test_any_rows_of_many_made_towns(self):
        made = random.Random(23)
        told = []
        for turn in range(400):
            town = made_town(made, 4)
            live = made_live(made, town)
            rows = half_right_rows(made, town, live)
            rows = called_by_words(town, live, rows, list(range(town.size)) * made.randrange(4))
            self.assertIs(resting(town, live, rows), rests_by_words(town, live, rows))
            told.append(resting(town, live, rows))
        self.assertGreater(told.count(True), 50)
        self.assertGreater(told.count(False), 50)


class RowsKeepToThemselves(unittest.TestCase):
    def test_what_is_handed_in_is_as_before(self):
        live = list(ALL)
        rows = [(50, 0, 0, None), (9, 4, 1, 3), (50, 4, 1, 1), (50, 1, 1, 2)]
        kept = list(rows)
        for house in range(4):
            due(STAR, live, rows, house)
            offer(STAR, rows[house], house)
            own_row(STAR, house)
            resting(STAR, live, rows)
            self.assertEqual((live, rows), (ALL, kept))
        self.assertEqual([STAR.name(house) for house in range(4)], [50, 60, 70, 80])
        self.assertEqual([STAR.rope(rope)[:3] for rope in ALL],
                         [(0, 1, 4), (2, 0, 4), (0, 3, 1), (1, 2, 1), (0, 2, 4)])

    def test_lists_changed_behind_a_call_are_taken_as_they_are_then(self):
        live = [2]
        rows = [(50, 0, 0, None), (60, 0, 0, None), (70, 0, 0, None), (50, 1, 1, 2)]
        self.assertIs(resting(STAR, live, rows), True)
        live.clear()
        self.assertIs(resting(STAR, live, rows), False)
        rows[3] = (80, 0, 0, None)
        self.assertIs(resting(STAR, live, rows), True)

    def test_arguments_by_their_names(self):
        rows = own_rows(STAR)
        self.assertEqual(own_row(town=STAR, house=2), (70, 0, 0, None))
        self.assertEqual(offer(town=STAR, row=rows[0], rope=2), (50, 1, 1, 2))
        self.assertEqual(due(town=STAR, live=[2], rows=rows, house=3), (50, 1, 1, 2))
        self.assertIs(resting(town=STAR, live=[2], rows=rows), False)


if __name__ == "__main__":
    unittest.main()

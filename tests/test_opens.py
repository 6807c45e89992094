import itertools
import random
import unittest

from knotless.knots import knot, parts
from knotless.opens import open_at, opens, ups
from knotless.rounds import called, settled
from knotless.towns import Town
from samples import (
    VAST, calls_of_rounds, half_right_rows, led_to, made_calls, made_live, made_rows, made_town, opens_by_words,
    own_rows, parts_by_words, ups_by_words,
)

# A ring of three, with a second rope between 0 and 1, and a house apart that no rope joins.
RING = Town([4, 5, 6, 7], [(0, 1, 2, 1, 7), (1, 2, 2, 1, 7), (2, 0, 3, 1, 7), (1, 0, 2, 1, 7)])
ALL = [0, 1, 2, 3]
REST = [(4, 0, 0, None), (4, 2, 1, 0), (4, 3, 1, 2), (7, 0, 0, None)]


def pairs_of(town, ropes):
    return [town.rope(rope)[:2] for rope in ropes]


class OpensCase(unittest.TestCase):
    def hold(self, town, live, rows):
        """Ups, opens and open_at against the words of point [10]; and no knot, whatever the rows."""
        told = ups(town, live, rows)
        self.assertEqual(told, ups_by_words(town, live, rows))
        self.assertEqual(len(told), town.size)
        for house, up in enumerate(told):
            if up is not None:
                self.assertIsInstance(up, tuple)
                self.assertIn(up[0], live)
                self.assertEqual(rows[house][2], rows[up[1]][2] + 1)
        ropes = opens(town, live, rows)
        self.assertEqual(ropes, opens_by_words(town, live, rows))
        self.assertEqual(ropes, sorted(set(ropes)))
        self.assertIsNone(knot(town.size, pairs_of(town, ropes)))
        for house in range(town.size):
            self.assertEqual(open_at(town, live, rows, house),
                             [rope for rope in ropes if house in town.rope(rope)[:2]])
        return ropes


class Ups(OpensCase):
    def told(self, rows, live=ALL):
        self.hold(RING, live, rows)
        return ups(RING, live, rows)

    def with_row(self, house, row):
        return REST[:house] + [row] + REST[house + 1:]

    def test_at_rest(self):
        self.assertEqual(self.told(REST), [None, (0, 0), (2, 0), None])

    def test_own_rows_hang_on_none(self):
        self.assertEqual(self.told(own_rows(RING)), [None] * 4)

    def test_a_by_of_none(self):
        self.assertEqual(self.told(self.with_row(1, (4, 2, 1, None))), [None, None, (2, 0), None])

    def test_a_rope_that_is_not_live(self):
        self.assertEqual(self.told(REST, [1, 2, 3]), [None, None, (2, 0), None])
        self.assertEqual(self.told(REST, [0, 1, 3]), [None, (0, 0), None, None])
        self.assertEqual(self.told(REST, []), [None] * 4)

    def test_a_rope_that_is_not_the_houses(self):
        # Rope 2 joins 2 with 0 at cost 3: house 1 and house 3 hold just its offer, and are not on it.
        self.assertEqual(self.told(self.with_row(1, (4, 3, 1, 2))), [None, None, (2, 0), None])
        self.assertEqual(self.told(self.with_row(3, (4, 3, 1, 2))), [None, (0, 0), (2, 0), None])

    def test_an_offer_that_is_another_one(self):
        for row in ((3, 2, 1, 0), (5, 2, 1, 0), (4, 1, 1, 0), (4, 3, 1, 0), (4, 2, 0, 0), (4, 2, 2, 0)):
            self.assertEqual(self.told(self.with_row(1, row)), [None, None, (2, 0), None])

    def test_another_rope_than_the_least_is_hung_by_too(self):
        self.assertEqual(self.told(self.with_row(1, (4, 2, 1, 3))), [None, (3, 0), (2, 0), None])

    def test_a_stale_head_is_hung_on_all_the_same(self):
        rows = [(1, 5, 0, 2), (1, 7, 1, 3), (1, 9, 2, 1), (7, 0, 0, None)]
        self.assertEqual(self.told(rows), [None, (3, 0), (1, 1), None])

    def test_a_row_that_is_not_its_due_is_hung_by(self):
        # House 2 would take the own row of 0 if it were called.
        rows = [(4, 0, 0, None), (5, 0, 0, None), (5, 2, 1, 1), (7, 0, 0, None)]
        self.assertEqual(self.told(rows), [None, None, (1, 1), None])

    def test_two_houses_whose_rows_name_the_same_rope(self):
        rows = [(4, 0, 0, 0), (4, 2, 1, 0), (6, 0, 0, None), (7, 0, 0, None)]
        self.assertEqual(self.told(rows), [None, (0, 0), None, None])
        rows = [(4, 2, 1, 0), (4, 0, 0, 0), (6, 0, 0, None), (7, 0, 0, None)]
        self.assertEqual(self.told(rows), [(0, 1), None, None, None])
        rows = [(4, 2, 1, 0), (4, 2, 1, 0), (6, 0, 0, None), (7, 0, 0, None)]
        self.assertEqual(self.told(rows), [None] * 4)

    def test_hops_as_many_as_houses_are_offered_by_none(self):
        rows = [(1, 0, 3, None), (1, 2, 4, 0), (6, 0, 0, None), (7, 0, 0, None)]
        self.assertEqual(ups(RING, ALL, rows), [None] * 4)
        rows = [(1, 0, 2, None), (1, 2, 3, 0), (6, 0, 0, None), (7, 0, 0, None)]
        self.assertEqual(self.told(rows), [None, (0, 0), None, None])

    def test_a_town_of_one_house(self):
        self.assertEqual(ups(Town([4], []), [], [(4, 0, 0, None)]), [None])
        self.assertEqual(ups(Town([4], []), [], [(0, 3, 0, None)]), [None])

    def test_heads_and_costs_of_sixty_figures(self):
        town = Town([VAST, VAST - 1], [(0, 1, VAST, 1, 1)])
        self.assertEqual(ups(town, [0], [(VAST - 2, 2 * VAST, 1, 0), (VAST - 2, VAST, 0, None)]), [(0, 1), None])
        self.assertEqual(ups(town, [0], [(VAST - 2, 2 * VAST - 1, 1, 0), (VAST - 2, VAST, 0, None)]), [None, None])


class Opens(OpensCase):
    def test_rising_whatever_the_order_of_the_houses(self):
        town = Town([1, 2, 3, 4], [(3, 0, 1, 1, 1), (0, 2, 1, 1, 1), (1, 0, 1, 1, 1)])
        rows = [(1, 0, 0, None), (1, 1, 1, 2), (1, 1, 1, 1), (1, 1, 1, 0)]
        self.assertEqual(self.hold(town, [0, 1, 2], rows), [0, 1, 2])

    def test_at_rest(self):
        self.assertEqual(self.hold(RING, ALL, REST), [0, 2])
        self.assertEqual(opens(RING, ALL, own_rows(RING)), [])
        self.assertEqual(opens(RING, [], REST), [])

    def test_open_at_each_house(self):
        self.assertEqual([open_at(RING, ALL, REST, house) for house in range(4)], [[0, 2], [0], [2], []])

    def test_a_town_of_one_house(self):
        town = Town([4], [])
        self.assertEqual(opens(town, [], [(4, 0, 0, None)]), [])
        self.assertEqual(open_at(town, [], [(4, 0, 0, None)], 0), [])

    def test_no_knot_in_each_rows_of_a_ring_of_three(self):
        town = Town([7, 8, 9], [(0, 1, 1, 1, 1), (1, 2, 1, 1, 1), (2, 0, 1, 1, 1), (0, 1, 1, 1, 1)])
        every = [(1, cost, hops, by) for cost, hops in ((0, 0), (1, 1), (2, 2), (1, 0), (2, 1))
                 for by in (None, 0, 1, 2, 3)]
        most = 0
        for rows in itertools.product(every, repeat=3):
            ropes = opens(town, [0, 1, 2, 3], list(rows))
            self.assertIsNone(knot(3, pairs_of(town, ropes)))
            most = max(most, len(ropes))
        self.assertEqual(most, 2)

    def test_rows_of_all_kinds(self):
        made = random.Random(51)
        hanging = 0
        for turn in range(300):
            town = made_town(made)
            live = made_live(made, town)
            for rows in (made_rows(made, town), half_right_rows(made, town, live)):
                hanging += len(self.hold(town, live, rows))
        self.assertGreater(hanging, 300)

    def test_stale_rows_behind_some_calls_and_some_falls(self):
        made = random.Random(52)
        hanging = 0
        for turn in range(300):
            town = made_town(made)
            rows = made.choice([own_rows(town), made_rows(made, town), settled(town, list(range(town.many)))])
            for change in range(3):
                live = made_live(made, town)
                hanging += len(self.hold(town, live, rows))
                rows = called(town, live, rows, made_calls(made, town.size))
                hanging += len(self.hold(town, live, rows))
        self.assertGreater(hanging, 1000)


class AtRest(OpensCase):
    def hold_rest(self, town, live, rows):
        ropes = self.hold(town, live, rows)
        labels = parts_by_words(town, live)
        self.assertEqual(labels, parts(town.size, pairs_of(town, live)))
        self.assertEqual(len(ropes), town.size - len(set(labels)))
        self.assertEqual(parts(town.size, pairs_of(town, ropes)), labels)
        for house, up in enumerate(ups(town, live, rows)):
            self.assertEqual(up is None, rows[house] == (town.name(house), 0, 0, None))
            self.assertEqual(led_to(town, ropes, house), led_to(town, live, house))
        first = [house for house, up in enumerate(ups(town, live, rows)) if up is None]
        self.assertEqual(sorted(labels[house] for house in first), sorted(set(labels)))

    def test_open_ropes_lead_just_where_live_ropes_do(self):
        made = random.Random(53)
        for turn in range(200):
            town = made_town(made)
            live = made_live(made, town)
            self.hold_rest(town, live, settled(town, live))

    def test_behind_twice_as_many_rounds_as_houses_from_any_rows(self):
        made = random.Random(54)
        for turn in range(100):
            town = made_town(made)
            live = made_live(made, town)
            calls = calls_of_rounds(made, town.size, 2 * town.size)
            self.hold_rest(town, live, called(town, live, made_rows(made, town), calls))

    def test_the_live_ropes_of_each_group(self):
        made = random.Random(55)
        for turn in range(60):
            town = made_town(made)
            for group in range(3):
                live = [rope for rope in range(town.many) if town.lets(rope, group)]
                self.hold_rest(town, live, settled(town, live))

    def test_a_full_town_of_ten(self):
        made = random.Random(56)
        for turn in range(20):
            ropes = [tuple(made.sample(range(10), 2)) + (made.randint(1, 3), 1, 7) for number in range(20)]
            town = Town(made.sample(range(100), 10), ropes)
            self.hold_rest(town, list(range(20)), settled(town, list(range(20))))


class OpensKeepToThemselves(unittest.TestCase):
    def tellers(self, live, rows):
        return [lambda: ups(RING, live, rows), lambda: opens(RING, live, rows)] + [
            lambda house=house: open_at(RING, live, rows, house) for house in range(4)]

    def test_what_is_handed_in_is_as_before(self):
        live = list(ALL)
        rows = list(REST)
        for tell in self.tellers(live, rows):
            tell()
            self.assertEqual((live, rows), (ALL, REST))
        self.assertEqual([RING.name(house) for house in range(4)], [4, 5, 6, 7])
        self.assertEqual([RING.ropes_at(house) for house in range(4)], [[0, 2, 3], [0, 1, 3], [1, 2], []])

    def test_a_told_list_that_was_changed_does_not_change_what_is_told_next(self):
        live = list(ALL)
        rows = list(REST)
        for tell in self.tellers(live, rows):
            told = tell()
            kept = list(told)
            told.append(17)
            self.assertEqual(tell(), kept)
            told.clear()
            self.assertEqual(tell(), kept)
            self.assertEqual((live, rows), (ALL, REST))

    def test_lists_handed_in_may_be_emptied_behind_the_call(self):
        live = list(ALL)
        rows = list(REST)
        told = [tell() for tell in self.tellers(live, rows)]
        live.clear()
        rows.clear()
        self.assertEqual(told, [[None, (0, 0), (2, 0), None], [0, 2], [0, 2], [0], [2], []])

    def test_arguments_by_their_names(self):
        self.assertEqual(ups(town=RING, live=ALL, rows=REST), [None, (0, 0), (2, 0), None])
        self.assertEqual(opens(town=RING, live=ALL, rows=REST), [0, 2])
        self.assertEqual(open_at(town=RING, live=ALL, rows=REST, house=1), [0])


if __name__ == "__main__":
    unittest.main()

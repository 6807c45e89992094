import random
import unittest

from knotless.opens import opens
from knotless.rounds import called, settled
from knotless.routes import beyond, route, up_way
from knotless.towns import Town
from samples import (
    VAST, beyond_by_words, half_right_rows, led_to, made_calls, made_live, made_rows, made_town, opens_by_words,
    own_rows, up_way_by_words, ways,
)

# Two arms from house 0, by 1 to 2 and by 3 to 4; rope 4 closes the ring, rope 5 lies beside rope 1, and 5 is apart.
ARMS = Town([3, 4, 5, 6, 7, 8], [
    (1, 0, 2, 1, 7), (1, 2, 2, 1, 7), (0, 3, 1, 1, 7), (4, 3, 1, 1, 7), (2, 4, 9, 1, 7), (2, 1, 2, 1, 7)])
ALL = [0, 1, 2, 3, 4, 5]
REST = [(3, 0, 0, None), (3, 2, 1, 0), (3, 4, 2, 1), (3, 1, 1, 2), (3, 2, 2, 3), (8, 0, 0, None)]


class UpWay(unittest.TestCase):
    def test_a_house_that_hangs_on_none(self):
        self.assertEqual(up_way(ARMS, ALL, REST, 0), [0])
        self.assertEqual(up_way(ARMS, ALL, REST, 5), [5])
        for house in range(6):
            self.assertEqual(up_way(ARMS, ALL, own_rows(ARMS), house), [house])
            self.assertEqual(up_way(ARMS, [], REST, house), [house])

    def test_a_town_of_one_house(self):
        self.assertEqual(up_way(Town([4], []), [], [(0, 0, 0, None)], 0), [0])

    def test_up_the_arms(self):
        self.assertEqual([up_way(ARMS, ALL, REST, house) for house in range(1, 5)],
                         [[1, 0], [2, 1, 0], [3, 0], [4, 3, 0]])

    def test_it_ends_where_a_stale_row_hangs_on_none(self):
        rows = list(REST)
        rows[1] = (3, 2, 1, None)
        self.assertEqual(up_way(ARMS, ALL, rows, 2), [2, 1])
        self.assertEqual(up_way(ARMS, [1, 2, 3, 4, 5], REST, 2), [2, 1])

    def test_the_longest(self):
        town = Town(list(range(10)), [(house, house + 1, VAST, 1, 1) for house in range(9)])
        live = list(range(9))
        rows = settled(town, live)
        self.assertEqual(up_way(town, live, rows, 9), [9, 8, 7, 6, 5, 4, 3, 2, 1, 0])
        self.assertEqual(up_way(town, live, rows, 4), [4, 3, 2, 1, 0])
        town = Town(list(range(9, -1, -1)), [(house, house + 1, 1, 1, 1) for house in range(9)])
        self.assertEqual(up_way(town, live, settled(town, live), 0), list(range(10)))


class Route(unittest.TestCase):
    def test_from_a_house_to_itself(self):
        for rows in (REST, own_rows(ARMS)):
            for house in range(6):
                self.assertEqual(route(ARMS, ALL, rows, house, house), [])
                self.assertEqual(route(ARMS, [], rows, house, house), [])
        self.assertEqual(route(Town([4], []), [], [(4, 0, 0, None)], 0, 0), [])

    def test_up_down_and_over_the_head(self):
        self.assertEqual(route(ARMS, ALL, REST, 2, 0), [1, 0])
        self.assertEqual(route(ARMS, ALL, REST, 0, 2), [0, 1])
        self.assertEqual(route(ARMS, ALL, REST, 2, 4), [1, 0, 2, 3])
        self.assertEqual(route(ARMS, ALL, REST, 4, 2), [3, 2, 0, 1])
        self.assertEqual(route(ARMS, ALL, REST, 3, 4), [3])

    def test_the_numbers_are_the_towns_ropes(self):
        rows = list(REST)
        rows[2] = (3, 4, 2, 5)
        self.assertEqual(opens(ARMS, ALL, rows), [0, 2, 3, 5])
        self.assertEqual(route(ARMS, ALL, rows, 4, 2), [3, 2, 0, 5])

    def test_none_where_open_ropes_do_not_lead(self):
        for house in range(5):
            self.assertIsNone(route(ARMS, ALL, REST, house, 5))
            self.assertIsNone(route(ARMS, ALL, REST, 5, house))
        self.assertIsNone(route(ARMS, ALL, own_rows(ARMS), 0, 1))
        self.assertIsNone(route(ARMS, [1, 2, 3, 4, 5], REST, 0, 2))
        self.assertEqual(route(ARMS, [1, 2, 3, 4, 5], REST, 1, 2), [1])

    def test_the_longest(self):
        town = Town([5, 4, 3, 2, 1, 0, 6, 7, 8, 9], [(house + 1, house, 1, 1, 1) for house in range(9)])
        live = list(range(9))
        rows = settled(town, live)
        self.assertEqual(route(town, live, rows, 0, 9), live)
        self.assertEqual(route(town, live, rows, 9, 0), live[::-1])


class Beyond(unittest.TestCase):
    def test_an_open_rope(self):
        self.assertEqual(beyond(ARMS, ALL, REST, 0), [1, 2])
        self.assertEqual(beyond(ARMS, ALL, REST, 1), [2])
        self.assertEqual(beyond(ARMS, ALL, REST, 2), [3, 4])
        self.assertEqual(beyond(ARMS, ALL, REST, 3), [4])

    def test_a_rope_that_is_not_open(self):
        self.assertEqual(beyond(ARMS, ALL, REST, 4), [])
        self.assertEqual(beyond(ARMS, ALL, REST, 5), [])
        for rope in ALL:
            self.assertEqual(beyond(ARMS, ALL, own_rows(ARMS), rope), [])
            self.assertEqual(beyond(ARMS, [], REST, rope), [])

    def test_a_rope_that_a_row_names_but_hangs_not_by(self):
        rows = list(REST)
        rows[3] = (3, 7, 1, 2)
        self.assertEqual(beyond(ARMS, ALL, rows, 2), [])

    def test_rising_whatever_the_order_in_which_they_hang(self):
        town = Town([9, 8, 7, 1], [(3, 2, 1, 1, 1), (2, 0, 1, 1, 1), (0, 1, 1, 1, 1)])
        rows = settled(town, [0, 1, 2])
        self.assertEqual(up_way(town, [0, 1, 2], rows, 1), [1, 0, 2, 3])
        self.assertEqual([beyond(town, [0, 1, 2], rows, rope) for rope in range(3)], [[0, 1, 2], [0, 1], [1]])


class AllOfThem(unittest.TestCase):
    def hold(self, town, live, rows):
        """Against points [11] and [12], told without the program."""
        ropes = opens_by_words(town, live, rows)
        for one in range(town.size):
            self.assertEqual(up_way(town, live, rows, one), up_way_by_words(town, live, rows, one))
            near = led_to(town, ropes, one)
            for other in range(town.size):
                told = route(town, live, rows, one, other)
                self.assertEqual(told, ways(town, ropes, one, other)[0] if other in near else None)
                if told is not None:
                    self.assertIsInstance(told, list)
        for rope in range(town.many):
            told = beyond(town, live, rows, rope)
            self.assertEqual(told, beyond_by_words(town, live, rows, rope))
            self.assertEqual(told != [], rope in ropes)

    def test_rows_of_all_kinds(self):
        made = random.Random(61)
        for turn in range(40):
            town = made_town(made)
            live = made_live(made, town)
            self.hold(town, live, made_rows(made, town))
            self.hold(town, live, half_right_rows(made, town, live))

    def test_rows_at_rest_and_behind_some_calls(self):
        made = random.Random(62)
        for turn in range(30):
            town = made_town(made)
            live = made_live(made, town)
            rows = settled(town, live)
            self.hold(town, live, rows)
            other_live = made_live(made, town)
            self.hold(town, other_live, called(town, other_live, rows, made_calls(made, town.size)))

    def test_at_rest_a_route_leads_wherever_live_ropes_do(self):
        made = random.Random(63)
        for turn in range(60):
            town = made_town(made)
            live = made_live(made, town)
            rows = settled(town, live)
            for one in range(town.size):
                near = led_to(town, live, one)
                for other in range(town.size):
                    self.assertEqual(route(town, live, rows, one, other) is not None, other in near)

    def test_at_rest_the_up_way_has_the_least_cost_to_the_head(self):
        made = random.Random(64)
        for turn in range(60):
            town = made_town(made)
            live = made_live(made, town)
            rows = settled(town, live)
            for house in range(town.size):
                last = up_way(town, live, rows, house)[-1]
                ropes = route(town, live, rows, house, last)
                self.assertEqual(town.name(last), rows[house][0])
                self.assertEqual((sum(town.rope(rope)[2] for rope in ropes), len(ropes)), rows[house][1:3])


class Falls(unittest.TestCase):
    def test_no_call_changes_a_house_that_was_not_beyond(self):
        made = random.Random(65)
        changed = 0
        for turn in range(60):
            town = made_town(made)
            live = made_live(made, town)
            rows = settled(town, live)
            for rope in live:
                left = [each for each in live if each != rope]
                away = beyond(town, live, rows, rope)
                self.assertEqual(away == [], rope not in opens(town, live, rows))
                now = rows
                for house in made_calls(made, town.size) + list(range(town.size)):
                    now = called(town, left, now, [house])
                    differ = [each for each in range(town.size) if now[each] != rows[each]]
                    self.assertLessEqual(set(differ), set(away))
                    changed += len(differ)
        self.assertGreater(changed, 1000)

    def test_each_house_beyond_changes_in_the_end(self):
        for rope in ALL:
            left = [each for each in ALL if each != rope]
            rest = settled(ARMS, left)
            differ = [house for house in range(6) if rest[house] != REST[house]]
            self.assertEqual(differ, beyond(ARMS, ALL, REST, rope))


class RoutesKeepToThemselves(unittest.TestCase):
    def tellers(self, live, rows):
        return [lambda: up_way(ARMS, live, rows, 2), lambda: up_way(ARMS, live, rows, 5),
                lambda: route(ARMS, live, rows, 2, 4), lambda: route(ARMS, live, rows, 1, 1),
                lambda: beyond(ARMS, live, rows, 0), lambda: beyond(ARMS, live, rows, 4)]

    def test_what_is_handed_in_is_as_before(self):
        live = list(ALL)
        rows = list(REST)
        for tell in self.tellers(live, rows) + [lambda: route(ARMS, live, rows, 0, 5)]:
            tell()
            self.assertEqual((live, rows), (ALL, REST))
        self.assertEqual([ARMS.name(house) for house in range(6)], [3, 4, 5, 6, 7, 8])
        self.assertEqual([ARMS.ropes_at(house) for house in range(6)],
                         [[0, 2], [0, 1, 5], [1, 4, 5], [2, 3], [3, 4], []])

    def test_a_told_list_that_was_changed_does_not_change_what_is_told_next(self):
        live = list(ALL)
        rows = list(REST)
        for tell in self.tellers(live, rows):
            told = tell()
            kept = list(told)
            told.append(17)
            self.assertEqual(tell(), kept)
            told.clear()
            self.assertEqual(tell(), kept)
            self.assertEqual((live, rows), (ALL, REST))

    def test_lists_handed_in_may_be_emptied_behind_the_call(self):
        live = list(ALL)
        rows = list(REST)
        told = [tell() for tell in self.tellers(live, rows)]
        live.clear()
        rows.clear()
        self.assertEqual(told, [[2, 1, 0], [5], [1, 0, 2, 3], [], [1, 2], []])

    def test_arguments_by_their_names(self):
        self.assertEqual(up_way(town=ARMS, live=ALL, rows=REST, house=2), [2, 1, 0])
        self.assertEqual(route(town=ARMS, live=ALL, rows=REST, one=2, other=0), [1, 0])
        self.assertEqual(beyond(town=ARMS, live=ALL, rows=REST, rope=0), [1, 2])


if __name__ == "__main__":
    unittest.main()

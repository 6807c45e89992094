import itertools
import random
import unittest

from knotless.knots import knot, parts, way

VAST = 10 ** 60 - 1


def far_end(pair, house):
    return pair[1] if pair[0] == house else pair[0]


def least_houses(size, pairs):
    """The parts, found without the program: least labels handed over the pairs till none changes."""
    labels = list(range(size))
    changed = True
    while changed:
        changed = False
        for one, other in pairs:
            least = min(labels[one], labels[other])
            if labels[one] != least or labels[other] != least:
                labels[one] = labels[other] = least
                changed = True
    return labels


class KnotCase(unittest.TestCase):
    def hold_way(self, pairs, one, other, told):
        """A told way against the words: each pair leads on, no house twice, and it ends there."""
        self.assertIsInstance(told, list)
        house = one
        seen = [one]
        for number in told:
            self.assertIn(number, range(len(pairs)))
            self.assertIn(house, pairs[number])
            house = far_end(pairs[number], house)
            self.assertNotIn(house, seen)
            seen.append(house)
        self.assertEqual(house, other)

    def hold_knot(self, pairs, told):
        """A told knot against the words: no house and no pair twice, each leads on, the last to the first."""
        self.assertIsInstance(told, list)
        self.assertGreaterEqual(len(told), 2)
        for step in told:
            self.assertIsInstance(step, tuple)
            self.assertEqual(len(step), 2)
            self.assertIn(step[1], range(len(pairs)))
        houses = [house for house, number in told]
        numbers = [number for house, number in told]
        self.assertEqual(len(set(houses)), len(houses))
        self.assertEqual(len(set(numbers)), len(numbers))
        for place, (house, number) in enumerate(told):
            following = houses[(place + 1) % len(houses)]
            self.assertEqual(sorted(pairs[number]), sorted((house, following)))

    def hold_parts_and_knot(self, size, pairs):
        kept = list(pairs)
        labels = least_houses(size, kept)
        self.assertEqual(parts(size, pairs), labels)
        told = knot(size, pairs)
        if len(kept) == size - len(set(labels)):
            self.assertIsNone(told)
        else:
            self.hold_knot(kept, told)
        self.assertEqual(pairs, kept)
        return labels

    def hold_all(self, size, pairs):
        labels = self.hold_parts_and_knot(size, pairs)
        kept = list(pairs)
        for one in range(size):
            for other in range(size):
                told = way(size, pairs, one, other)
                if labels[one] == labels[other]:
                    self.hold_way(kept, one, other, told)
                else:
                    self.assertIsNone(told)
        self.assertEqual(pairs, kept)


class Parts(KnotCase):
    def test_one_house(self):
        self.assertEqual(parts(1, []), [0])

    def test_no_pairs(self):
        self.assertEqual(parts(5, []), [0, 1, 2, 3, 4])

    def test_several_parts(self):
        self.assertEqual(parts(7, [(5, 2), (6, 3), (4, 6)]), [0, 1, 2, 3, 3, 2, 3])

    def test_a_part_is_told_by_its_least_house_whatever_the_order(self):
        for pairs in itertools.permutations([(3, 4), (2, 3), (1, 2)]):
            self.assertEqual(parts(5, list(pairs)), [0, 1, 1, 1, 1])

    def test_the_same_two_houses_twice(self):
        self.assertEqual(parts(3, [(2, 1), (1, 2)]), [0, 1, 1])


class Ways(KnotCase):
    def test_from_a_house_to_itself(self):
        self.assertEqual(way(1, [], 0, 0), [])
        self.assertEqual(way(3, [(0, 1), (1, 2), (2, 0)], 2, 2), [])
        self.assertEqual(way(3, [(0, 1)], 2, 2), [])

    def test_none_where_no_pairs_lead(self):
        self.assertIsNone(way(2, [], 0, 1))
        self.assertIsNone(way(4, [(0, 1), (2, 3)], 1, 2))
        self.assertIsNone(way(3, [(0, 1), (1, 0)], 2, 0))

    def test_a_chain_has_one_way_each_way_round(self):
        pairs = [(2, 3), (1, 0), (1, 2)]
        self.assertEqual(way(4, pairs, 0, 3), [1, 2, 0])
        self.assertEqual(way(4, pairs, 3, 0), [0, 2, 1])
        self.assertEqual(way(4, pairs, 1, 3), [2, 0])

    def test_a_pair_told_either_way_round(self):
        for pair in ((0, 1), (1, 0)):
            self.assertEqual(way(2, [pair], 0, 1), [0])
            self.assertEqual(way(2, [pair], 1, 0), [0])

    def test_one_of_two_pairs_of_the_same_houses(self):
        self.assertIn(way(2, [(0, 1), (1, 0)], 0, 1), ([0], [1]))


class Knots(KnotCase):
    def test_none_without_a_knot(self):
        self.assertIsNone(knot(1, []))
        self.assertIsNone(knot(4, []))
        self.assertIsNone(knot(2, [(1, 0)]))
        self.assertIsNone(knot(5, [(0, 1), (0, 2), (3, 0), (4, 0)]))

    def test_the_same_two_houses_twice(self):
        for pairs in ([(0, 1), (0, 1)], [(0, 1), (1, 0)], [(1, 0), (1, 0)]):
            told = knot(2, pairs)
            self.hold_knot(pairs, told)
            self.assertEqual(len(told), 2)

    def test_a_knot_in_the_second_part(self):
        pairs = [(0, 1), (1, 2), (4, 3), (4, 5), (3, 5)]
        told = knot(6, pairs)
        self.hold_knot(pairs, told)
        self.assertEqual({house for house, number in told}, {3, 4, 5})

    def test_a_ring_with_a_tail_leaves_the_tail_out(self):
        pairs = [(0, 1), (1, 2), (2, 3), (3, 4), (4, 2)]
        told = knot(5, pairs)
        self.hold_knot(pairs, told)
        self.assertEqual({number for house, number in told}, {2, 3, 4})


class All(KnotCase):
    def test_each_short_list_of_pairs(self):
        for size, most in ((1, 0), (2, 4), (3, 4), (4, 3)):
            every = list(itertools.permutations(range(size), 2))
            for length in range(most + 1):
                for pairs in itertools.product(every, repeat=length):
                    self.hold_all(size, list(pairs))

    def test_many_made_lists_of_pairs(self):
        made = random.Random(5)
        for turn in range(300):
            size = made.randint(2, 12)
            pairs = [tuple(made.sample(range(size), 2)) for number in range(made.randint(0, 20))]
            self.hold_all(size, pairs)

    def test_long_chains_and_rings(self):
        for size in (20, 300):
            chain = [(house, house + 1) if house % 3 else (house + 1, house) for house in range(size - 1)]
            self.hold_parts_and_knot(size, chain)
            self.assertEqual(way(size, chain, 0, size - 1), list(range(size - 1)))
            self.assertEqual(way(size, chain, size - 1, 0), list(range(size - 2, -1, -1)))
            ring = chain + [(size - 1, 0)]
            self.hold_parts_and_knot(size, ring)
            self.assertEqual(len(knot(size, ring)), size)
            for other in (0, 1, size // 2, size - 1):
                self.hold_way(ring, 3, other, way(size, ring, 3, other))

    def test_a_long_shuffled_chain(self):
        size = 300
        chain = [(house, house + 1) for house in range(size - 1)]
        random.Random(9).shuffle(chain)
        self.hold_parts_and_knot(size, chain)
        self.hold_way(chain, 0, size - 1, way(size, chain, 0, size - 1))
        self.assertIsNone(way(size + 1, chain, 0, size))

    def test_three_hundred_pairs_of_few_houses(self):
        made = random.Random(11)
        pairs = [tuple(made.sample(range(6), 2)) for number in range(300)]
        self.hold_all(7, pairs)

    def test_houses_of_sixty_figures(self):
        far = VAST - 1
        pairs = [(far, 0), (5, far), (7, 8)]
        self.assertEqual(way(VAST, pairs, 0, 5), [0, 1])
        self.assertEqual(way(VAST, pairs, 5, 0), [1, 0])
        self.assertEqual(way(VAST, pairs, far - 1, far - 1), [])
        self.assertIsNone(way(VAST, pairs, far, 7))
        self.assertIsNone(knot(VAST, pairs))
        pairs.append((5, 0))
        told = knot(VAST, pairs)
        self.hold_knot(pairs, told)
        self.assertEqual({house for house, number in told}, {0, 5, far})

    def test_arguments_by_their_names(self):
        pairs = [(0, 1), (1, 0)]
        self.assertEqual(parts(size=2, pairs=pairs), [0, 0])
        self.assertEqual(len(way(size=2, pairs=pairs, one=0, other=1)), 1)
        self.assertEqual(len(knot(size=2, pairs=pairs)), 2)

    def test_a_told_list_that_was_changed_does_not_change_what_is_told_next(self):
        pairs = [(0, 1), (1, 2), (2, 0)]
        for tell in (parts, knot, lambda size, held: way(size, held, 0, 2), lambda size, held: way(size, held, 0, 0)):
            told = tell(3, pairs)
            kept = list(told)
            told.append(17)
            self.assertEqual(tell(3, pairs), kept)
            told.clear()
            self.assertEqual(tell(3, pairs), kept)
            self.assertEqual(pairs, [(0, 1), (1, 2), (2, 0)])

    def test_the_list_handed_in_may_be_emptied_behind_the_call(self):
        pairs = [(0, 1), (1, 2), (2, 0)]
        told = (parts(3, pairs), way(3, pairs, 0, 2), knot(3, pairs))
        kept = tuple(list(each) for each in told)
        pairs.clear()
        self.assertEqual(told, kept)
        self.assertEqual((parts(3, pairs), way(3, pairs, 0, 2), knot(3, pairs)), ([0, 1, 2], None, None))


if __name__ == "__main__":
    unittest.main()

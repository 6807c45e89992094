import itertools
import unittest

from knotless.errors import Apart, BadTown, NoCaller, NoCopy, NoGroup, NoHouse, NoLetter, NoWire
from knotless.net import Net
from knotless.towns import Town
from net_by_words import all_told
from samples import VAST

# A ring of the houses 0, 1 and 2; house 3 hangs on it for group 0 alone, house 4 on house 3 for the groups 0 and 1.
ROPES = [(0, 1, 1, 2, 7), (1, 2, 1, 3, 7), (2, 0, 5, 1, 7), (2, 3, 1, 1, 1), (3, 4, 2, 4, 3)]
TOWN = Town([5, 2, 8, 3, 9], ROPES)
OWN = [(5, 0, 0, None), (2, 0, 0, None), (8, 0, 0, None), (3, 0, 0, None), (9, 0, 0, None)]
REST = [
    [(2, 1, 1, 0), (2, 0, 0, None), (2, 1, 1, 1), (2, 2, 2, 3), (2, 4, 3, 4)],
    [(2, 1, 1, 0), (2, 0, 0, None), (2, 1, 1, 1), (3, 0, 0, None), (3, 2, 1, 4)],
    [(2, 1, 1, 0), (2, 0, 0, None), (2, 1, 1, 1), (3, 0, 0, None), (9, 0, 0, None)],
]
CALLERS = [(0, 0), (2, 0), (4, 0), (4, 0), (1, 1), (2, 1), (0, 2), (2, 2), (3, 1)]

# A triangle in which house 1 is come to by rope 0 at first, and more cheaply by the ropes 1 and 2.
TRIANGLE = Town([1, 2, 3], [(0, 1, 3, 1, 7), (0, 2, 1, 1, 7), (1, 2, 1, 1, 7)])

NO_NUMBERS = [-1, -2, VAST, -VAST]
NO_HOUSES = NO_NUMBERS + [-5, -6, 5, 6, 10]
NO_GROUPS = NO_NUMBERS + [-3, -4, 3, 4, 7]
NO_CALLERS = NO_NUMBERS + [-9, -10, 9, 10, 20]


def settled_net(callers=CALLERS, town=TOWN):
    net = Net(town, callers)
    for group in range(3):
        for house in list(range(town.size)) * 2 * town.size:
            net.call(house, group)
    return net


def run(net):
    while net.flying():
        net.pass_on()
    return net


def noted_net():
    """At rest, with notes in each group: for the callers 0, 4 and 6, who wrote to all."""
    net = settled_net()
    for sender in (0, 4, 6):
        net.post(sender)
    return run(net)


NOTED = [
    [(1, 0, 0), (2, 0, 1), (3, 0, 3), (4, 0, 4)],
    [(0, 4, 0), (2, 4, 1)],
    [(1, 6, 0), (2, 6, 1)],
]


def told(net, callers=len(CALLERS)):
    letters = 0
    while True:
        try:
            net.story(letters)
        except NoLetter:
            return all_told(net, callers, letters)
        letters += 1


def notes(net):
    return [net.notes(group) for group in range(3)]


class AtFirst(unittest.TestCase):
    def test_own_rows_in_each_group(self):
        net = Net(TOWN, CALLERS)
        self.assertEqual([net.rows(group) for group in range(3)], [OWN, OWN, OWN])

    def test_all_wires_stand(self):
        net = Net(TOWN, CALLERS)
        self.assertEqual([net.live(group) for group in range(3)], [[0, 1, 2, 3, 4], [0, 1, 2, 4], [0, 1, 2]])
        for rope, wire in ((0, 0), (0, 1), (1, 2), (4, 3)):
            self.assertRaises(NoWire, net.lay, rope, wire)

    def test_no_ropes_are_open(self):
        net = Net(TOWN, CALLERS)
        self.assertEqual([net.opens(group) for group in range(3)], [[], [], []])
        self.assertEqual([net.resting(group) for group in range(3)], [False, False, False])

    def test_no_notes_no_copies_no_letters(self):
        net = Net(TOWN, CALLERS)
        self.assertEqual(notes(net), [[], [], []])
        self.assertEqual(net.flying(), [])
        self.assertRaises(NoLetter, net.story, 0)
        self.assertEqual([net.had(caller) for caller in range(9)], [[]] * 9)

    def test_callers_are_where_they_were_told(self):
        net = Net(TOWN, CALLERS)
        self.assertEqual([net.place(caller) for caller in range(9)], [0, 2, 4, 4, 1, 2, 0, 2, 3])

    def test_a_town_of_one_house(self):
        net = Net(Town([4], []), [(0, 1), (0, 1)])
        self.assertEqual([net.resting(group) for group in range(3)], [True, True, True])
        self.assertEqual((net.rows(0), net.live(0), net.opens(0)), ([(4, 0, 0, None)], [], []))
        self.assertIs(net.call(0, 0), False)
        self.assertEqual(net.post(0), 0)
        self.assertEqual(net.story(0), [("post", 0), ("hand", 0, 1)])
        self.assertEqual(net.flying(), [])

    def test_a_town_without_callers(self):
        net = Net(TOWN, [])
        for caller in (-1, 0, 1, VAST):
            self.assertRaises(NoCaller, net.place, caller)
            self.assertRaises(NoCaller, net.had, caller)
            self.assertRaises(NoCaller, net.move, caller, 0)
            self.assertRaises(NoCaller, net.post, caller)
        self.assertIs(net.call(0, 0), True)

    def test_arguments_by_their_names(self):
        net = Net(callers=CALLERS, town=TOWN)
        self.assertIs(net.call(group=0, house=0), True)
        self.assertEqual((net.rows(group=0)[0], net.live(group=2), net.opens(group=0), net.notes(group=0)),
                         ((2, 1, 1, 0), [0, 1, 2], [0], []))
        self.assertIs(net.resting(group=0), False)
        self.assertEqual(net.post(to=1, sender=0), 0)
        self.assertEqual(net.pass_on(at=0), "come")
        self.assertEqual(net.post(sender=0), 1)
        self.assertEqual(net.story(letter=0)[0], ("post", 0))
        self.assertIs(net.fall(wire=0, rope=3), True)
        self.assertIs(net.lay(wire=0, rope=3), True)
        net.move(house=1, caller=0)
        self.assertEqual((net.place(caller=0), net.had(caller=0)), (1, []))


class Callers(unittest.TestCase):
    def test_20_callers_and_21(self):
        net = Net(TOWN, [(caller % 5, caller % 3) for caller in range(20)])
        self.assertEqual([net.place(caller) for caller in range(20)], [0, 1, 2, 3, 4] * 4)
        self.assertRaises(NoCaller, net.place, 20)
        self.assertRaises(BadTown, Net, TOWN, [(0, 0)] * 21)
        self.assertRaises(BadTown, Net, TOWN, [(0, 0)] * 200)

    def test_houses_that_the_town_does_not_have(self):
        for house in NO_HOUSES:
            self.assertRaises(BadTown, Net, TOWN, [(house, 0)])
            self.assertRaises(BadTown, Net, TOWN, [(0, 0), (4, 2), (house, 1)])
        self.assertEqual(Net(TOWN, [(4, 0)]).place(0), 4)
        self.assertRaises(BadTown, Net, Town([4], []), [(1, 0)])

    def test_groups_that_there_are_not(self):
        for group in NO_GROUPS:
            self.assertRaises(BadTown, Net, TOWN, [(0, group)])
            self.assertRaises(BadTown, Net, TOWN, [(0, 0), (0, group), (1, 1)])

    def test_tuples_of_another_length(self):
        for caller in ((), (0,), (0, 0, 0), (0, 0, 0, 0)):
            self.assertRaises(BadTown, Net, TOWN, [caller])
            self.assertRaises(BadTown, Net, TOWN, [(0, 0), caller])

    def test_two_things_wrong_at_once(self):
        self.assertRaises(BadTown, Net, TOWN, [(5, 3)])
        self.assertRaises(BadTown, Net, TOWN, [(-1, -1)] * 21)

    def test_several_in_one_house(self):
        net = Net(TOWN, [(3, 0)] * 20)
        self.assertEqual([net.place(caller) for caller in range(20)], [3] * 20)


class Calls(unittest.TestCase):
    def test_a_call_that_changes_a_row(self):
        net = Net(TOWN, CALLERS)
        self.assertIs(net.call(0, 0), True)
        self.assertEqual(net.rows(0), [(2, 1, 1, 0)] + OWN[1:])
        self.assertEqual((net.rows(1), net.rows(2)), (OWN, OWN))
        self.assertEqual([net.opens(group) for group in range(3)], [[0], [], []])

    def test_a_call_that_does_not(self):
        net = Net(TOWN, CALLERS)
        self.assertIs(net.call(1, 0), False)
        self.assertEqual(net.rows(0), OWN)
        self.assertIs(net.call(0, 0), True)
        self.assertIs(net.call(0, 0), False)

    def test_each_by_the_rows_behind_the_one_ahead(self):
        net = Net(TOWN, CALLERS)
        self.assertEqual([net.call(house, 0) for house in (4, 3, 2, 3, 4, 4)], [True, False, True, True, True, False])
        self.assertEqual(net.rows(0), [OWN[0], OWN[1], (2, 1, 1, 1), (2, 2, 2, 3), (2, 4, 3, 4)])
        self.assertEqual(net.opens(0), [1, 3, 4])

    def test_at_rest(self):
        net = settled_net()
        self.assertEqual([net.rows(group) for group in range(3)], REST)
        self.assertEqual([net.opens(group) for group in range(3)], [[0, 1, 3, 4], [0, 1, 4], [0, 1]])
        self.assertEqual([net.resting(group) for group in range(3)], [True, True, True])
        for house, group in itertools.product(range(5), range(3)):
            self.assertIs(net.call(house, group), False)

    def test_resting_of_one_group_alone(self):
        net = Net(TOWN, [])
        for house in (0, 2):
            net.call(house, 2)
        self.assertEqual([net.resting(group) for group in range(3)], [False, False, True])
        net.fall(0, 0)
        self.assertIs(net.resting(2), True)
        net.fall(0, 1)
        self.assertIs(net.resting(2), False)


class FallsAndLayings(unittest.TestCase):
    def test_a_rope_of_one_wire(self):
        net = settled_net()
        self.assertIs(net.fall(3, 0), True)
        self.assertEqual([net.live(group) for group in range(3)], [[0, 1, 2, 4], [0, 1, 2, 4], [0, 1, 2]])
        self.assertEqual(net.opens(0), [0, 1, 4])
        self.assertEqual([net.rows(group) for group in range(3)], REST)
        self.assertIs(net.resting(0), False)
        self.assertIs(net.lay(3, 0), True)
        self.assertEqual(net.live(0), [0, 1, 2, 3, 4])
        self.assertEqual(net.opens(0), [0, 1, 3, 4])
        self.assertIs(net.resting(0), True)

    def test_a_rope_of_four_wires(self):
        net = settled_net()
        self.assertEqual([net.fall(4, wire) for wire in (2, 0, 3, 1)], [False, False, False, True])
        self.assertEqual([net.live(group) for group in range(3)], [[0, 1, 2, 3], [0, 1, 2], [0, 1, 2]])
        self.assertEqual([net.lay(4, wire) for wire in (3, 1, 0, 2)], [True, False, False, False])
        self.assertEqual([net.live(group) for group in range(3)], [[0, 1, 2, 3, 4], [0, 1, 2, 4], [0, 1, 2]])

    def test_behind_a_fall_the_ring_leads_the_other_way(self):
        net = settled_net()
        net.fall(0, 0)
        net.fall(0, 1)
        for house in list(range(5)) * 10:
            net.call(house, 2)
        self.assertEqual(net.rows(2), [(2, 6, 2, 2), (2, 0, 0, None), (2, 1, 1, 1), (3, 0, 0, None), (9, 0, 0, None)])
        self.assertEqual(net.opens(2), [1, 2])
        self.assertEqual(net.opens(0), [1, 3, 4])


class News(unittest.TestCase):
    def held(self, net, groups):
        """The notes of these groups are gone, those of the others are kept."""
        self.assertEqual(notes(net), [[] if group in groups else NOTED[group] for group in range(3)])

    def test_at_rest_there_are_notes_in_each_group(self):
        self.held(noted_net(), [])

    def test_a_call_that_changes_a_row(self):
        for group in (0, 1):
            net = Net(TOWN, CALLERS)
            # House 4 is not called, so that its row is still to change when notes are there.
            for each, house in itertools.product(range(3), (0, 2, 3)):
                net.call(house, each)
            for sender in (0, 4, 6):
                net.post(sender)
            before = notes(run(net))
            self.assertEqual(before, [[(1, 0, 0), (2, 0, 1), (3, 0, 3)], NOTED[1], NOTED[2]])
            self.assertIs(net.call(4, group), True)
            self.assertEqual(notes(net), [[] if each == group else before[each] for each in range(3)])

    def test_a_call_that_changes_a_row_of_group_2(self):
        net = Net(TOWN, CALLERS)
        net.call(0, 2)
        net.post(6)
        run(net)
        self.assertEqual(notes(net), [[], [], [(1, 6, 0)]])
        self.assertIs(net.call(2, 0), True)
        self.assertIs(net.call(2, 1), True)
        self.assertIs(net.call(1, 2), False)
        self.assertEqual(notes(net), [[], [], [(1, 6, 0)]])
        self.assertIs(net.call(2, 2), True)
        self.assertEqual(notes(net), [[], [], []])

    def test_a_call_that_changes_nothing(self):
        net = noted_net()
        for house, group in itertools.product(range(5), range(3)):
            self.assertIs(net.call(house, group), False)
        self.held(net, [])

    def test_a_fall_by_which_a_rope_ends(self):
        net = noted_net()
        self.assertIs(net.fall(3, 0), True)
        self.held(net, [0])
        net = noted_net()
        for wire in range(4):
            net.fall(4, wire)
        self.held(net, [0, 1])
        net = noted_net()
        net.fall(0, 1)
        net.fall(0, 0)
        self.held(net, [0, 1, 2])

    def test_a_fall_of_a_rope_that_is_not_open(self):
        net = noted_net()
        self.assertIs(net.fall(2, 0), True)
        self.assertEqual([net.opens(group) for group in range(3)], [[0, 1, 3, 4], [0, 1, 4], [0, 1]])
        self.held(net, [0, 1, 2])

    def test_a_wire_laid_by_which_a_rope_begins(self):
        for rope, groups in ((2, [0, 1, 2]), (3, [0])):
            net = noted_net()
            net.fall(rope, 0)
            for sender in (0, 4, 6):
                net.post(sender)
            run(net)
            before = notes(net)
            self.assertTrue(all(before))
            self.assertIs(net.lay(rope, 0), True)
            self.assertEqual(notes(net), [[] if group in groups else before[group] for group in range(3)])

    def test_wires_while_others_of_the_rope_stand(self):
        net = noted_net()
        for rope, wire in ((0, 1), (1, 0), (1, 2), (4, 0), (4, 1), (4, 3)):
            self.assertIs(net.fall(rope, wire), False)
        self.held(net, [])
        for rope, wire in ((0, 1), (1, 0), (1, 2), (4, 0), (4, 1), (4, 3)):
            self.assertIs(net.lay(rope, wire), False)
        self.held(net, [])

    def test_a_caller_that_moves_to_another_house(self):
        for caller, (here, group) in enumerate(CALLERS):
            for house in [each for each in range(5) if each != here]:
                net = noted_net()
                self.assertIsNone(net.move(caller, house))
                self.assertEqual(net.place(caller), house)
                self.held(net, [group])

    def test_a_caller_that_moves_to_where_it_is(self):
        net = noted_net()
        for caller in range(9):
            here = net.place(caller)
            self.assertIsNone(net.move(caller, here))
            self.assertEqual(net.place(caller), here)
        self.held(net, [])

    def test_a_caller_that_moves_away_and_back(self):
        net = noted_net()
        net.move(1, 3)
        net.move(1, 2)
        self.assertEqual(net.place(1), 2)
        self.held(net, [0])

    def test_posting_and_arriving_are_none(self):
        net = noted_net()
        for sender, to in ((1, None), (2, 0), (5, 4), (7, None), (7, 6)):
            net.post(sender, to)
            net.flying()
        for group in range(3):
            self.assertTrue(set(NOTED[group]) <= set(net.notes(group)))
        run(net)
        for group in range(3):
            self.assertTrue(set(NOTED[group]) <= set(net.notes(group)))

    def test_refused_deeds_are_none(self):
        net = noted_net()
        for deed in (lambda: net.fall(5, 0), lambda: net.fall(2, 1), lambda: net.lay(2, 0), lambda: net.move(0, 5),
                     lambda: net.move(9, 0), lambda: net.call(5, 0), lambda: net.call(0, 3), lambda: net.post(0, 4)):
            self.assertRaises(ValueError, deed)
        self.held(net, [])


class Old(unittest.TestCase):
    """Letters that were posted ahead of news make no notes; those posted behind it do."""

    def came(self, news, caller=0, house=1, rope=0):
        net = settled_net()
        letter = net.post(caller)
        news(net)
        self.assertEqual(net.flying()[0][:2] + net.flying()[0][3:], (letter, rope, house))
        self.assertEqual(net.pass_on(), "come")
        return net

    def test_without_news_a_note_is_made(self):
        self.assertEqual(self.came(lambda net: None).notes(0), [(1, 0, 0)])

    def test_each_kind_of_news(self):
        for news in (lambda net: net.fall(2, 0), lambda net: net.fall(3, 0), lambda net: net.move(3, 0),
                     lambda net: (net.fall(2, 0), net.lay(2, 0))):
            net = self.came(news)
            self.assertEqual(notes(net), [[], [], []])
            run(net)
            self.assertEqual(notes(net), [[], [], []])

    def test_a_call_that_changes_a_row(self):
        net = Net(TOWN, CALLERS)
        net.call(0, 0)
        net.post(0)
        self.assertIs(net.call(2, 0), True)
        self.assertEqual(net.pass_on(), "come")
        self.assertEqual(net.notes(0), [])
        self.assertEqual(net.pass_on(), "come")
        self.assertEqual(net.notes(0), [])
        self.assertEqual(net.story(0), [("post", 0), ("send", 0, 0, 0), ("come", 1, 0), ("send", 1, 1, 0),
                                        ("come", 2, 1), ("hand", 2, 1)])

    def test_a_wire_laid_by_which_a_rope_begins(self):
        net = settled_net()
        net.fall(2, 0)
        net.post(0)
        net.lay(2, 0)
        run(net)
        self.assertEqual(net.notes(0), [])

    def test_what_is_no_news(self):
        for other in (lambda net: net.fall(1, 0), lambda net: net.move(0, 0), lambda net: net.call(4, 0),
                      lambda net: net.move(4, 3), lambda net: net.post(3), lambda net: net.move(6, 4),
                      lambda net: (net.fall(4, 0), net.lay(4, 0))):
            net = self.came(other)
            self.assertEqual(net.notes(0), [(1, 0, 0)])

    def test_the_sender_itself_moves(self):
        net = self.came(lambda net: net.move(0, 4))
        self.assertEqual(net.notes(0), [])

    def test_old_in_one_group_alone(self):
        net = settled_net()
        for sender in (0, 4, 6):
            net.post(sender)
        net.move(5, 4)
        run(net)
        self.assertEqual(notes(net), [NOTED[0], [], NOTED[2]])

    def test_a_letter_posted_behind_the_news(self):
        net = settled_net()
        net.post(0)
        net.fall(2, 0)
        net.post(1)
        run(net)
        self.assertEqual(net.notes(0), [(0, 1, 0), (1, 1, 1), (3, 1, 3), (4, 1, 4)])

    def test_an_old_letter_goes_on_and_is_handed(self):
        net = self.came(lambda net: net.move(3, 1))
        self.assertEqual(net.story(0), [("post", 0), ("send", 0, 0, 0), ("come", 1, 0), ("hand", 1, 3),
                                        ("send", 1, 1, 0)])

    def test_an_old_letter_follows_newer_notes(self):
        star = Town([1, 2, 3, 4], [(0, 1, 1, 1, 7), (0, 2, 1, 1, 7), (0, 3, 1, 1, 7)])
        net = settled_net([(1, 0), (3, 0), (2, 0)], star)
        net.post(0, 1)
        net.move(2, 0)
        net.post(1)
        self.assertEqual(net.flying(), [(0, 0, 0, 0), (1, 2, 0, 0)])
        net.pass_on(1)
        self.assertEqual(net.notes(0), [(0, 1, 2)])
        self.assertEqual(net.pass_on(), "come")
        self.assertEqual(net.story(0)[-2:], [("come", 0, 0), ("send", 0, 2, 0)])
        self.assertEqual(net.notes(0), [(0, 1, 2)])


class Posting(unittest.TestCase):
    def test_numbered_from_0_through_all_groups(self):
        net = settled_net()
        self.assertEqual([net.post(0), net.post(4, 5), net.post(6), net.post(0, 0), net.post(8)], [0, 1, 2, 3, 4])

    def test_to_all(self):
        net = settled_net()
        net.post(1)
        self.assertEqual(net.story(0), [("post", 2), ("send", 2, 1, 1), ("send", 2, 3, 0)])
        self.assertEqual(net.flying(), [(0, 1, 1, 1), (0, 3, 0, 3)])

    def test_to_all_with_others_in_the_house(self):
        net = settled_net()
        net.post(2)
        self.assertEqual(net.story(0), [("post", 4), ("hand", 4, 3), ("send", 4, 4, 2)])
        self.assertEqual((net.had(2), net.had(3)), ([], [0]))

    def test_to_one_in_the_house(self):
        net = settled_net()
        net.post(3, 2)
        self.assertEqual(net.story(0), [("post", 4), ("hand", 4, 2)])
        self.assertEqual(net.flying(), [])
        self.assertEqual((net.had(2), net.had(3)), ([0], []))

    def test_to_oneself(self):
        net = settled_net()
        for number, caller in enumerate((0, 3, 5)):
            self.assertEqual(net.post(caller, caller), number)
            self.assertEqual(net.story(number), [("post", net.place(caller)), ("hand", net.place(caller), caller)])
            self.assertEqual(net.had(caller), [number])
        self.assertEqual(net.flying(), [])

    def test_to_caller_0_is_not_to_all(self):
        net = settled_net()
        net.post(3, 0)
        run(net)
        self.assertEqual([net.had(caller) for caller in range(4)], [[0], [], [], []])

    def test_to_none_by_name_is_to_all(self):
        net = settled_net()
        net.post(3, None)
        run(net)
        self.assertEqual([net.had(caller) for caller in range(4)], [[0], [0], [0], []])

    def test_no_note_is_made_by_posting(self):
        net = settled_net()
        for sender in range(9):
            net.post(sender)
        self.assertEqual(notes(net), [[], [], []])

    def test_callers_of_other_groups_who_are_there_are_handed_nothing(self):
        net = settled_net([(0, 0), (0, 1), (0, 2), (1, 0), (1, 1), (1, 2)])
        for sender in (0, 1, 2):
            net.post(sender)
        run(net)
        self.assertEqual([net.had(caller) for caller in range(6)], [[], [], [], [0], [1], [2]])

    def test_over_the_groups_own_open_ropes(self):
        net = settled_net()
        for sender in (1, 5, 7, 8):
            net.post(sender)
        self.assertEqual([each[:2] for each in net.flying()], [(0, 1), (0, 3), (1, 1), (2, 1), (3, 4)])

    def test_where_no_ropes_are_open(self):
        net = Net(TOWN, CALLERS)
        net.post(0)
        net.post(0, 1)
        self.assertEqual(net.flying(), [])
        self.assertEqual((net.story(0), net.story(1)), ([("post", 0)], [("post", 0)]))


class ByNotes(unittest.TestCase):
    def test_a_letter_to_one_floods_without_notes_and_follows_them(self):
        net = settled_net([(0, 0), (1, 0), (4, 0)])
        net.post(1, 2)
        self.assertEqual(net.flying(), [(0, 0, 0, 0), (0, 1, 1, 2)])
        run(net)
        self.assertEqual(net.notes(0), [(0, 1, 0), (2, 1, 1), (3, 1, 3), (4, 1, 4)])
        net.post(2, 1)
        run(net)
        self.assertEqual([deed[:2] for deed in net.story(1) if deed[0] == "come"],
                         [("come", 3), ("come", 2), ("come", 1)])
        # House 1 has a note for caller 2 now, so the next letter goes no more to house 0.
        self.assertEqual(net.notes(0), [(0, 1, 0), (1, 2, 1), (2, 1, 1), (2, 2, 3), (3, 1, 3), (3, 2, 4), (4, 1, 4)])
        net.post(1, 2)
        run(net)
        self.assertEqual(net.story(2), [
            ("post", 1), ("send", 1, 1, 1), ("come", 2, 1), ("send", 2, 3, 0), ("come", 3, 3), ("send", 3, 4, 0),
            ("come", 4, 4), ("hand", 4, 2),
        ])

    def test_a_note_with_the_rope_by_which_it_came(self):
        net = settled_net([(0, 0), (1, 0)])
        net.post(1, 0)
        net.post(0)
        self.assertEqual(net.flying(), [(0, 0, 0, 0), (0, 1, 2, 2), (1, 0, 0, 1)])
        # The later letter overtakes the copy to house 2, and notes there that caller 0 is the other way.
        net.pass_on(2)
        net.pass_on(2)
        self.assertEqual(net.notes(0), [(1, 0, 0), (2, 0, 1)])
        self.assertEqual(net.pass_on(1), "come")
        self.assertEqual(net.story(0), [("post", 1), ("send", 1, 0, 0), ("send", 1, 1, 2), ("come", 2, 1)])

    def test_notes_of_one_group_do_not_lead_another(self):
        net = settled_net([(0, 0), (2, 0), (1, 1), (1, 0)])
        net.post(0)
        run(net)
        net.post(2)
        self.assertEqual([each[1] for each in net.flying()], [0, 1])
        self.assertEqual(net.notes(1), [])
        net.post(3, 0)
        self.assertEqual([each[1] for each in net.flying() if each[0] == 2], [0])


class Order(unittest.TestCase):
    def test_copies_are_kept_in_the_order_in_which_they_were_sent(self):
        net = settled_net()
        net.post(1)
        net.post(0)
        net.post(4)
        self.assertEqual(net.flying(), [(0, 1, 1, 1), (0, 3, 0, 3), (1, 0, 0, 1), (2, 0, 0, 0), (2, 1, 1, 2)])
        self.assertEqual(net.pass_on(), "come")
        self.assertEqual(net.flying(), [(0, 3, 0, 3), (1, 0, 0, 1), (2, 0, 0, 0), (2, 1, 1, 2), (0, 0, 1, 0)])
        self.assertEqual(net.pass_on(1), "come")
        self.assertEqual(net.flying(), [(0, 3, 0, 3), (2, 0, 0, 0), (2, 1, 1, 2), (0, 0, 1, 0), (1, 1, 0, 2)])
        self.assertEqual(net.pass_on(4), "come")
        self.assertEqual(net.flying(), [(0, 3, 0, 3), (2, 0, 0, 0), (2, 1, 1, 2), (0, 0, 1, 0), (1, 3, 0, 3)])
        self.assertEqual(net.pass_on(0), "come")
        self.assertEqual(net.flying(), [(2, 0, 0, 0), (2, 1, 1, 2), (0, 0, 1, 0), (1, 3, 0, 3), (0, 4, 1, 4)])

    def test_the_first_arrives_where_no_place_is_told(self):
        net = settled_net()
        net.post(1)
        net.pass_on()
        self.assertEqual(net.story(0)[-2:], [("come", 1, 1), ("send", 1, 0, 1)])

    def test_any_order_of_arrival_ends_alike(self):
        for order in itertools.product(range(2), repeat=4):
            net = settled_net()
            net.post(1)
            for at in order:
                net.pass_on(min(at, len(net.flying()) - 1))
            self.assertEqual(net.flying(), [])
            self.assertEqual([net.had(caller) for caller in range(4)], [[0], [], [0], [0]])
            self.assertEqual(net.notes(0), [(0, 1, 0), (1, 1, 1), (3, 1, 3), (4, 1, 4)])

    def test_handed_in_the_order_of_handing(self):
        net = settled_net()
        net.post(1)
        net.post(0)
        net.post(3, 2)
        while net.flying():
            net.pass_on(len(net.flying()) - 1)
        self.assertEqual(net.had(2), [2, 1, 0])
        self.assertEqual(net.had(3), [1, 0])


class Wires(unittest.TestCase):
    def wires(self, net, letters):
        return [[deed[2:] for deed in net.story(letter) if deed[0] == "send"] for letter in letters]

    def test_by_the_letters_number_not_its_place(self):
        town = Town([1, 2], [(0, 1, 1, 4, 7)])
        net = settled_net([(0, 0)] * 6 + [(1, 0)], town)
        for sender in range(6):
            self.assertEqual(net.post(sender), sender)
        self.assertEqual([each[2] for each in net.flying()], [0, 1, 2, 3, 0, 1])
        run(net)
        for sender in range(6):
            net.post(sender, 6)
        self.assertEqual([each[2] for each in net.flying()], [3, 0, 1, 2, 3, 0])

    def test_by_the_wires_that_stand(self):
        town = Town([1, 2], [(0, 1, 1, 4, 7)])
        for fallen, told_wires in (((), [0, 1, 2, 3, 0]), ((1,), [0, 2, 3, 0, 2]), ((0, 3), [1, 2, 1, 2, 1]),
                                   ((0, 1, 2), [3, 3, 3, 3, 3])):
            net = settled_net([(0, 0)] * 5, town)
            for wire in fallen:
                net.fall(0, wire)
            for sender in range(5):
                net.post(sender)
            self.assertEqual([each[2] for each in net.flying()], told_wires)

    def test_a_copy_keeps_its_wire_when_others_fall_or_are_laid(self):
        town = Town([1, 2], [(0, 1, 1, 3, 7)])
        net = settled_net([(0, 0), (0, 0)], town)
        net.fall(0, 0)
        net.post(1)
        self.assertEqual(net.flying(), [(0, 0, 2, 1)])
        net.lay(0, 0)
        net.fall(0, 1)
        self.assertEqual(net.flying(), [(0, 0, 2, 1)])
        self.assertEqual(net.pass_on(), "come")

    def test_each_rope_by_its_own_wires(self):
        net = settled_net()
        net.post(3, 0)
        run(net)
        self.assertEqual(self.wires(net, [0]), [[(4, 0), (3, 0), (1, 1), (0, 0)]])


class FallingWires(unittest.TestCase):
    def test_copies_on_the_wire_are_lost_at_once_in_their_order(self):
        town = Town([1, 2], [(0, 1, 1, 2, 7), (0, 1, 5, 1, 7)])
        net = settled_net([(0, 0), (0, 0), (1, 0), (0, 1), (1, 1)], town)
        for sender in (0, 1, 2, 3, 4):
            net.post(sender)
        self.assertEqual(net.flying(), [(0, 0, 0, 1), (1, 0, 1, 1), (2, 0, 0, 0), (3, 0, 1, 1), (4, 0, 0, 0)])
        self.assertIs(net.fall(0, 0), False)
        self.assertEqual(net.flying(), [(1, 0, 1, 1), (3, 0, 1, 1)])
        self.assertEqual(net.story(0), [("post", 0), ("hand", 0, 1), ("send", 0, 0, 0), ("lost", 1, 0)])
        self.assertEqual(net.story(2), [("post", 1), ("send", 1, 0, 0), ("lost", 0, 0)])
        self.assertEqual(net.story(4), [("post", 1), ("send", 1, 0, 0), ("lost", 0, 0)])
        self.assertEqual(net.story(1), [("post", 0), ("hand", 0, 0), ("send", 0, 0, 1)])
        self.assertIs(net.fall(0, 1), True)
        self.assertEqual(net.flying(), [])
        self.assertEqual(net.story(1)[-1], ("lost", 1, 0))
        self.assertEqual(net.story(3)[-1], ("lost", 1, 0))

    def test_two_copies_of_one_letter_on_wires_of_one_number(self):
        net = settled_net()
        net.post(4)
        self.assertEqual(net.flying(), [(0, 0, 0, 0), (0, 1, 1, 2)])
        net.fall(1, 1)
        self.assertEqual(net.flying(), [(0, 0, 0, 0)])
        self.assertEqual(net.story(0)[-1], ("lost", 2, 1))

    def test_copies_on_the_ropes_other_wires_go_on_flying(self):
        net = settled_net()
        net.post(0)
        net.post(1)
        net.pass_on(1)
        self.assertEqual(net.flying(), [(0, 0, 0, 1), (1, 3, 0, 3), (1, 0, 1, 0)])
        net.fall(0, 0)
        self.assertEqual(net.flying(), [(1, 3, 0, 3), (1, 0, 1, 0)])
        net.fall(0, 1)
        self.assertEqual(net.flying(), [(1, 3, 0, 3)])
        self.assertEqual((net.story(0)[-1], net.story(1)[-1]), (("lost", 1, 0), ("lost", 0, 0)))

    def test_a_wire_laid_again_brings_nothing_back(self):
        net = settled_net()
        net.post(1)
        net.fall(3, 0)
        net.lay(3, 0)
        self.assertEqual(net.flying(), [(0, 1, 1, 1)])
        run(net)
        self.assertEqual([net.had(caller) for caller in range(4)], [[0], [], [], []])

    def test_no_news_where_others_of_the_rope_stand(self):
        net = settled_net()
        net.post(0)
        net.post(0, 1)
        self.assertEqual(net.flying(), [(0, 0, 0, 1), (1, 0, 0, 1)])
        net.post(1, 0)
        net.fall(0, 0)
        run(net)
        self.assertEqual(net.notes(0), [(0, 1, 0), (1, 1, 1), (3, 1, 3), (4, 1, 4)])
        self.assertEqual(net.had(0), [2])

    def test_a_refused_fall_loses_nothing(self):
        net = settled_net()
        net.post(0)
        net.fall(0, 1)
        self.assertRaises(NoWire, net.fall, 0, 1)
        self.assertRaises(NoWire, net.fall, 0, -1)
        self.assertRaises(NoWire, net.fall, 0, 2)
        self.assertRaises(NoWire, net.fall, -5, 0)
        self.assertEqual(net.flying(), [(0, 0, 0, 1)])


class Arrivals(unittest.TestCase):
    """In the triangle; the letter is of caller 0 in house 0, with caller 1 in house 1 and caller 2 in house 2."""

    def posted(self):
        net = Net(TRIANGLE, [(0, 0), (1, 0), (2, 0)])
        for house in (1, 2):
            net.call(house, 0)
        self.assertEqual(net.opens(0), [0, 1])
        net.post(0)
        self.assertEqual(net.flying(), [(0, 0, 0, 1), (0, 1, 0, 2)])
        return net

    def test_come(self):
        net = self.posted()
        self.assertEqual(net.pass_on(), "come")
        self.assertEqual(net.pass_on(), "come")
        self.assertEqual(net.story(0), [("post", 0), ("send", 0, 0, 0), ("send", 0, 1, 0), ("come", 1, 0),
                                        ("hand", 1, 1), ("come", 2, 1), ("hand", 2, 2)])
        self.assertEqual(net.notes(0), [(1, 0, 0), (2, 0, 1)])

    def test_lost_where_the_rope_is_not_open(self):
        net = self.posted()
        self.assertIs(net.call(1, 0), True)
        self.assertEqual(net.opens(0), [1, 2])
        self.assertEqual(net.live(0), [0, 1, 2])
        self.assertEqual(net.pass_on(), "lost")
        self.assertEqual(net.story(0)[-1], ("lost", 1, 0))
        self.assertEqual(net.flying(), [(0, 1, 0, 2)])
        self.assertEqual(net.notes(0), [])
        self.assertEqual(net.had(1), [])

    def test_an_old_copy_comes_by_another_way(self):
        net = self.posted()
        net.call(1, 0)
        self.assertEqual([net.pass_on(), net.pass_on(), net.pass_on()], ["lost", "come", "come"])
        self.assertEqual(net.story(0), [
            ("post", 0), ("send", 0, 0, 0), ("send", 0, 1, 0), ("lost", 1, 0), ("come", 2, 1), ("hand", 2, 2),
            ("send", 2, 2, 0), ("come", 1, 2), ("hand", 1, 1),
        ])
        self.assertEqual(net.notes(0), [])

    def test_twice(self):
        net = self.posted()
        net.call(1, 0)
        self.assertEqual([net.pass_on(1), net.pass_on(1)], ["come", "come"])
        net.fall(2, 0)
        self.assertIs(net.call(1, 0), True)
        self.assertEqual(net.opens(0), [0, 1])
        before = (notes(net), [net.had(caller) for caller in range(3)])
        self.assertEqual(net.pass_on(), "twice")
        self.assertEqual(net.story(0)[-2:], [("hand", 1, 1), ("twice", 1, 0)])
        self.assertEqual(net.flying(), [])
        self.assertEqual((notes(net), [net.had(caller) for caller in range(3)]), before)

    def test_lost_is_asked_ahead_of_twice(self):
        net = self.posted()
        net.call(1, 0)
        self.assertEqual([net.pass_on(1), net.pass_on(1), net.pass_on()], ["come", "come", "lost"])

    def both_ways(self):
        """A copy of the letter flies over rope 0 each way."""
        net = self.posted()
        net.call(1, 0)
        self.assertEqual(net.pass_on(1), "come")
        self.assertEqual(net.flying(), [(0, 0, 0, 1), (0, 2, 0, 1)])
        net.fall(1, 0)
        for house in (1, 2, 1, 2):
            net.call(house, 0)
        self.assertEqual(net.opens(0), [0, 2])
        self.assertEqual(net.pass_on(1), "come")
        self.assertEqual(net.story(0)[-3:], [("come", 1, 2), ("hand", 1, 1), ("send", 1, 0, 0)])
        self.assertEqual(net.flying(), [(0, 0, 0, 1), (0, 0, 0, 0)])
        return net

    def test_twice_at_the_senders_house_too(self):
        net = self.both_ways()
        self.assertEqual([net.pass_on(1), net.pass_on()], ["twice", "twice"])
        self.assertEqual(net.story(0)[-2:], [("twice", 0, 0), ("twice", 1, 0)])
        self.assertEqual([net.had(caller) for caller in range(3)], [[], [0], [0]])

    def test_lost_both_ways_in_their_order(self):
        net = self.both_ways()
        net.fall(0, 0)
        self.assertEqual(net.flying(), [])
        self.assertEqual(net.story(0)[-2:], [("lost", 1, 0), ("lost", 0, 0)])

    def test_a_rope_that_closed_and_opened_again(self):
        net = self.posted()
        net.call(1, 0)
        net.fall(2, 0)
        net.call(1, 0)
        self.assertEqual(net.pass_on(), "come")
        self.assertEqual(net.notes(0), [])

    def test_open_in_another_group_does_not_help(self):
        net = self.posted()
        for house in (1, 2):
            net.call(house, 1)
        net.call(1, 0)
        self.assertEqual((net.opens(0), net.opens(1)), ([1, 2], [0, 1]))
        self.assertEqual(net.pass_on(), "lost")

    def test_closed_in_another_group_does_not_hinder(self):
        net = self.posted()
        self.assertEqual(net.opens(1), [])
        self.assertEqual(net.pass_on(), "come")


class Handing(unittest.TestCase):
    def test_who_moves_may_be_handed_it_twice(self):
        net = settled_net([(0, 0), (1, 0)])
        net.post(0)
        net.pass_on()
        self.assertEqual(net.had(1), [0])
        net.move(1, 2)
        net.pass_on()
        self.assertEqual(net.had(1), [0, 0])
        net.move(1, 3)
        net.move(0, 4)
        run(net)
        self.assertEqual((net.had(0), net.had(1)), ([], [0, 0, 0]))

    def test_who_moves_away_is_missed(self):
        net = settled_net([(0, 0), (2, 0)])
        net.post(0, 1)
        net.pass_on()
        net.move(1, 0)
        run(net)
        self.assertEqual(net.had(1), [])
        self.assertEqual([deed for deed in net.story(0) if deed[0] == "hand"], [])

    def test_who_moves_towards_it_is_met_earlier(self):
        net = settled_net([(0, 0), (4, 0)])
        net.post(0, 1)
        net.move(1, 1)
        run(net)
        self.assertEqual(net.story(0), [("post", 0), ("send", 0, 0, 0), ("come", 1, 0), ("hand", 1, 1)])

    def test_rising(self):
        net = settled_net([(1, 0), (2, 0), (0, 0), (1, 0), (1, 1), (1, 0)])
        net.move(1, 1)
        net.post(2)
        net.pass_on()
        self.assertEqual([deed for deed in net.story(0) if deed[0] == "hand"],
                         [("hand", 1, 0), ("hand", 1, 1), ("hand", 1, 3), ("hand", 1, 5)])


class Stories(unittest.TestCase):
    def test_a_letter_to_all_whole(self):
        net = settled_net([(1, 0), (0, 0), (1, 0), (2, 0), (4, 0), (4, 0), (1, 1)])
        net.post(0)
        run(net)
        self.assertEqual(net.story(0), [
            ("post", 1), ("hand", 1, 2), ("send", 1, 0, 0), ("send", 1, 1, 0),
            ("come", 0, 0), ("hand", 0, 1),
            ("come", 2, 1), ("hand", 2, 3), ("send", 2, 3, 0),
            ("come", 3, 3), ("send", 3, 4, 0),
            ("come", 4, 4), ("hand", 4, 4), ("hand", 4, 5),
        ])

    def test_a_letter_to_one_whole(self):
        net = settled_net([(1, 0), (0, 0), (1, 0), (2, 0), (4, 0), (4, 0), (1, 1)])
        net.post(2, 4)
        run(net)
        self.assertEqual(net.story(0), [
            ("post", 1), ("send", 1, 0, 1), ("send", 1, 1, 1), ("come", 0, 0), ("come", 2, 1), ("send", 2, 3, 0),
            ("come", 3, 3), ("send", 3, 4, 3), ("come", 4, 4), ("hand", 4, 4),
        ])

    def test_stories_apart(self):
        net = settled_net()
        net.post(0, 0)
        net.post(4)
        net.post(3, 2)
        run(net)
        self.assertEqual(net.story(0), [("post", 0), ("hand", 0, 0)])
        self.assertEqual(net.story(1), [("post", 1), ("send", 1, 0, 0), ("send", 1, 1, 1), ("come", 0, 0),
                                        ("come", 2, 1), ("hand", 2, 5)])
        self.assertEqual(net.story(2), [("post", 4), ("hand", 4, 2)])

    def test_a_list_of_tuples(self):
        net = settled_net()
        net.post(0)
        run(net)
        self.assertIsInstance(net.story(0), list)
        for deed in net.story(0):
            self.assertIsInstance(deed, tuple)


class GroupsApart(unittest.TestCase):
    def test_calls(self):
        for group in range(3):
            net = Net(TOWN, CALLERS)
            for house in list(range(5)) * 10:
                net.call(house, group)
            self.assertEqual([net.rows(each) for each in range(3)],
                             [REST[each] if each == group else OWN for each in range(3)])

    def test_letters_come_to_the_groups_own_houses_and_callers(self):
        net = settled_net()
        for sender in (1, 5, 7):
            net.post(sender)
        run(net)
        self.assertEqual([net.had(caller) for caller in range(9)], [[0], [], [0], [0], [1], [], [2], [], []])
        self.assertEqual(notes(net), [[(0, 1, 0), (1, 1, 1), (3, 1, 3), (4, 1, 4)], [(0, 5, 0), (1, 5, 1)],
                                      [(0, 7, 0), (1, 7, 1)]])

    def test_two_nets_of_one_town(self):
        one = settled_net()
        other = settled_net()
        before = told(other)
        one.post(0)
        one.fall(3, 0)
        one.move(1, 4)
        run(one)
        self.assertEqual(told(other), before)
        self.assertEqual(Net(TOWN, CALLERS).rows(0), OWN)


class Refused(unittest.TestCase):
    def setUp(self):
        # Something of each kind is there that a refused deed could change.
        self.net = noted_net()
        self.net.fall(4, 2)
        self.net.post(1)
        self.net.post(5, 4)
        self.before = told(self.net)

    def refused(self, error, deed, *args):
        with self.subTest(deed=deed, args=args):
            self.assertRaises(error, getattr(self.net, deed), *args)
            self.assertEqual(told(self.net), self.before)

    def test_groups(self):
        for group in NO_GROUPS:
            for deed in ("rows", "live", "opens", "notes", "resting"):
                self.refused(NoGroup, deed, group)

    def test_call(self):
        for house in NO_HOUSES:
            self.refused(NoHouse, "call", house, 0)
            for group in NO_GROUPS:
                self.refused(NoHouse, "call", house, group)
        for group in NO_GROUPS:
            for house in range(5):
                self.refused(NoGroup, "call", house, group)

    def test_fall_and_lay(self):
        for rope in NO_NUMBERS + [-5, -6, 5, 6, 20]:
            for wire in (-1, 0, 1, VAST):
                self.refused(NoWire, "fall", rope, wire)
                self.refused(NoWire, "lay", rope, wire)
        for rope, wires in enumerate([2, 3, 1, 1, 4]):
            for wire in NO_NUMBERS + [-wires, -wires - 1, wires, wires + 1]:
                self.refused(NoWire, "fall", rope, wire)
                self.refused(NoWire, "lay", rope, wire)

    def test_a_wire_that_has_fallen_or_stands_already(self):
        self.refused(NoWire, "fall", 4, 2)
        for rope, wires in enumerate([2, 3, 1, 1]):
            for wire in range(wires):
                self.refused(NoWire, "lay", rope, wire)
        for wire in (0, 1, 3):
            self.refused(NoWire, "lay", 4, wire)

    def test_place_and_had(self):
        for caller in NO_CALLERS:
            self.refused(NoCaller, "place", caller)
            self.refused(NoCaller, "had", caller)

    def test_move(self):
        for caller in NO_CALLERS:
            self.refused(NoCaller, "move", caller, 0)
            for house in NO_HOUSES:
                self.refused(NoCaller, "move", caller, house)
        for house in NO_HOUSES:
            for caller in range(9):
                self.refused(NoHouse, "move", caller, house)

    def test_post(self):
        for caller in NO_CALLERS:
            self.refused(NoCaller, "post", caller)
            for other in NO_CALLERS + list(range(9)):
                self.refused(NoCaller, "post", caller, other)
                self.refused(NoCaller, "post", other, caller)
        for sender, to in itertools.permutations(range(9), 2):
            if CALLERS[sender][1] != CALLERS[to][1]:
                self.refused(Apart, "post", sender, to)

    def test_pass_on(self):
        many = len(self.net.flying())
        for at in NO_NUMBERS + [-many, -many - 1, many, many + 1]:
            self.refused(NoCopy, "pass_on", at)
        run(self.net)
        self.before = told(self.net)
        self.refused(NoCopy, "pass_on")
        for at in NO_NUMBERS + [0, 1]:
            self.refused(NoCopy, "pass_on", at)

    def test_story(self):
        for letter in NO_NUMBERS + [-5, -6, 5, 6, 100]:
            self.refused(NoLetter, "story", letter)

    def test_a_refused_letter_takes_no_number(self):
        for sender, to in ((0, 4), (9, None), (0, 9)):
            self.assertRaises((Apart, NoCaller), self.net.post, sender, to)
        self.assertEqual(self.net.post(0), 5)


class KeptApart(unittest.TestCase):
    def test_what_is_handed_in_stays(self):
        callers = list(CALLERS)
        names = [5, 2, 8, 3, 9]
        ropes = list(ROPES)
        town = Town(names, ropes)
        net = settled_net(callers, town)
        for sender in range(9):
            net.post(sender)
        net.move(0, 4)
        net.fall(3, 0)
        run(net)
        self.assertEqual((callers, names, ropes), (CALLERS, [5, 2, 8, 3, 9], ROPES))
        self.assertEqual([town.rope(rope) for rope in range(5)], ROPES)

    def test_what_is_done_to_the_callers_behind_the_call(self):
        callers = list(CALLERS)
        net = settled_net(callers)
        callers.append((0, 0))
        callers[0] = (4, 2)
        self.assertRaises(NoCaller, net.place, 9)
        self.assertEqual(net.place(0), 0)
        callers.clear()
        self.assertEqual(net.post(0), 0)
        self.assertEqual(net.flying(), [(0, 0, 0, 1)])

    def test_told_lists_are_the_askers_own(self):
        net = noted_net()
        net.post(1)
        before = told(net)
        lists = [net.rows, net.live, net.opens, net.notes]
        for tell, group in itertools.product(lists, range(3)):
            for change in (lambda own: own.append(99), lambda own: own.clear(), lambda own: own.reverse()):
                change(tell(group))
                self.assertEqual(told(net), before)
            self.assertIsNot(tell(group), tell(group))
        for tell, asked in [(net.had, (caller,)) for caller in range(9)] + [(net.story, (3,)), (net.flying, ())]:
            tell(*asked).append(99)
            tell(*asked).clear()
            self.assertEqual(told(net), before)

    def test_told_lists_stay_when_more_is_done(self):
        net = noted_net()
        net.post(1)
        lists = [net.rows(0), net.live(0), net.opens(0), net.notes(0), net.flying(), net.story(3), net.had(0)]
        kept = [list(each) for each in lists]
        net.pass_on()
        net.fall(3, 0)
        net.call(3, 0)
        net.post(0, 0)
        net.lay(3, 0)
        run(net)
        self.assertEqual(lists, kept)


class VastNumbers(unittest.TestCase):
    def test_names_and_costs_of_sixty_figures(self):
        town = Town([VAST, VAST - 1, 0], [(0, 1, VAST, 1, 7), (1, 2, VAST, 4, 7)])
        net = settled_net([(0, 0), (2, 0)], town)
        self.assertEqual(net.rows(0), [(0, 2 * VAST, 2, 0), (0, VAST, 1, 1), (0, 0, 0, None)])
        net.post(0, 1)
        run(net)
        self.assertEqual(net.had(1), [0])
        self.assertEqual(net.notes(0), [(1, 0, 0), (2, 0, 1)])


if __name__ == "__main__":
    unittest.main()

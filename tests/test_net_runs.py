"""Made runs of deeds: the net against the words of its points, and what holds over the whole, whatever was done."""

import random
import unittest
from collections import Counter

from knotless.knots import knot
from knotless.net import Net
from knotless.rounds import rounds
from net_by_words import (
    GROUPS, NetByWords, all_told, led_by_open, made_callers, made_deed, made_full_town, made_ring_town, made_wild_deed,
    route_by_words,
)
from samples import calls_of_rounds, led_to, made_town, parts_by_words, rest_by_words


class Run:
    """A net and the same one told by words, to which the same is done."""

    def __init__(self, made, town, callers):
        self.made = made
        self.town = town
        self.callers = callers
        self.net = Net(town, callers)
        self.words = NetByWords(town, callers)

    def told(self):
        return all_told(self.net, len(self.callers), len(self.words.sent))

    def told_by_words(self):
        return all_told(self.words, len(self.callers), len(self.words.sent))

    def do(self, case, deed, *told):
        """What the deed tells, or None where it is refused; both nets agree on it, and on all behind it."""
        refusal = self.words.refusal(deed, *told)
        if refusal:
            before = self.told()
            case.assertRaises(refusal, getattr(self.net, deed), *told)
            case.assertEqual(self.told(), before)
            return None
        answer = getattr(self.net, deed)(*told)
        case.assertEqual(answer, getattr(self.words, deed)(*told))
        return answer

    def settle(self, case, group):
        """So many rounds that the group is at rest, whatever came ahead."""
        for house in calls_of_rounds(self.made, self.town.size, 2 * self.town.size):
            self.do(case, "call", house, group)


def started(seed, most=6, callers=8):
    made = random.Random(seed)
    town = made_ring_town(made, most) if made.random() < 0.7 else made_town(made, most)
    return Run(made, town, made_callers(made, town, callers))


class AgainstTheWords(unittest.TestCase):
    def test_made_runs(self):
        done = Counter()
        for seed in range(120):
            run = started(seed)
            self.assertEqual(run.told(), run.told_by_words())
            for group in GROUPS:
                if run.made.random() < 0.7:
                    run.settle(self, group)
            for turn in range(70):
                deed = made_deed(run.made, run.words)
                answer = run.do(self, *deed)
                self.assertEqual(run.told(), run.told_by_words())
                done[deed[0], answer if deed[0] != "post" else answer is not None] += 1
        # The runs are worth something only where each end of each deed was met, refusals too.
        for met in (("call", True), ("call", False), ("call", None), ("fall", True), ("fall", False), ("fall", None),
                    ("lay", True), ("lay", False), ("lay", None), ("post", True), ("post", False),
                    ("pass_on", "come"), ("pass_on", "lost"), ("pass_on", None)):
            self.assertGreater(done[met], 5, met)

    def test_runs_in_which_open_ropes_change_under_the_copies(self):
        ends = Counter()
        for seed in range(120):
            made = random.Random(500 + seed)
            town = made_full_town(made)
            run = Run(made, town, [(made.randrange(town.size), 0) for number in range(3)])
            run.settle(self, 0)
            for turn in range(80):
                deed = made_wild_deed(made, run.words)
                answer = run.do(self, *deed)
                self.assertEqual(run.told(), run.told_by_words())
                ends[answer] += 1
        for met in ("come", "twice", "lost"):
            self.assertGreater(ends[met], 5, met)

    def test_a_large_town_with_twenty_callers(self):
        for seed in range(6):
            made = random.Random(1000 + seed)
            town = made_town(made)
            callers = [(made.randrange(town.size), made.randrange(3)) for number in range(20)]
            run = Run(made, town, callers)
            for group in GROUPS:
                run.settle(self, group)
            for turn in range(60):
                run.do(self, *made_deed(made, run.words))
            self.assertEqual(run.told(), run.told_by_words())


class NoRing(unittest.TestCase):
    def test_behind_each_deed(self):
        for seed in range(60):
            run = started(2000 + seed, most=10)
            deeds = run.made.choice([made_deed, made_wild_deed])
            for turn in range(60):
                run.do(self, *deeds(run.made, run.words))
                for group in GROUPS:
                    ropes = run.net.opens(group)
                    pairs = [run.town.rope(rope)[:2] for rope in ropes]
                    self.assertIsNone(knot(run.town.size, pairs))
                    parts = parts_by_words(run.town, ropes)
                    self.assertEqual(len(ropes), run.town.size - len(set(parts)))
                    self.assertTrue(set(ropes) <= set(run.net.live(group)))


class Rest(unittest.TestCase):
    def rested(self, run, group):
        """Point [3]: no call changes anything, and open ropes lead to all, by least cost."""
        before = run.told()
        self.assertIs(run.net.resting(group), True)
        self.assertEqual([run.net.call(house, group) for house in range(run.town.size)], [False] * run.town.size)
        self.assertEqual(run.told(), before)
        live = run.net.live(group)
        self.assertEqual(run.net.rows(group), rest_by_words(run.town, live))
        for house in range(run.town.size):
            reached = led_to(run.town, live, house)
            self.assertEqual(led_by_open(run.words, group, house), reached)
            head = min(reached, key=run.town.name)
            route = route_by_words(run.words, group, house, head)
            row = run.net.rows(group)[house]
            self.assertEqual((sum(run.town.rope(rope)[2] for rope in route), len(route)), row[1:3])

    def test_behind_twice_as_many_rounds_as_houses_whatever_came_ahead(self):
        for seed in range(80):
            run = started(3000 + seed, most=8)
            for turn in range(run.made.randint(0, 80)):
                run.do(self, *made_deed(run.made, run.words))
            for group in run.made.sample(GROUPS, 3):
                calls = calls_of_rounds(run.made, run.town.size, 2 * run.town.size)
                self.assertEqual(rounds(run.town.size, calls), 2 * run.town.size)
                for house in calls:
                    run.net.call(house, group)
                    run.words.call(house, group)
                self.rested(run, group)

    def test_letters_and_other_groups_do_not_hinder_it(self):
        for seed in range(40):
            run = started(4000 + seed, most=6)
            for turn in range(40):
                run.do(self, *made_deed(run.made, run.words))
            for house in calls_of_rounds(run.made, run.town.size, 2 * run.town.size):
                run.do(self, "call", house, 1)
                other = made_deed(run.made, run.words)
                # Falls, layings and moves of group 1 would be something else done meanwhile.
                if other[0] in ("post", "pass_on") or (other[0] == "call" and other[2] in (0, 2)):
                    run.do(self, *other)
            self.rested(run, 1)


class Calm(unittest.TestCase):
    def emptied(self, run):
        while run.words.air:
            run.do(self, "pass_on", run.made.randrange(len(run.words.air)))

    def held(self, run, number, sender, to, first):
        """Point [20], from the story alone."""
        group = run.callers[sender][1]
        story = run.net.story(number)
        kinds = Counter(deed[0] for deed in story)
        self.assertEqual((kinds["lost"], kinds["twice"]), (0, 0))
        self.assertEqual((kinds["post"], story[0]), (1, ("post", first)))
        reached = led_by_open(run.words, group, first)
        come = [deed[1] for deed in story if deed[0] == "come"]
        handed = [deed[2] for deed in story if deed[0] == "hand"]
        self.assertEqual(len(come), len(set(come)))
        self.assertEqual(kinds["send"], kinds["come"])
        there = [caller for caller in range(len(run.callers))
                 if run.callers[caller][1] == group and run.net.place(caller) in reached]
        if to is None:
            self.assertEqual(sorted(come), sorted(reached - {first}))
            self.assertEqual(sorted(handed), [caller for caller in there if caller != sender])
        else:
            self.assertTrue(set(come) <= reached - {first})
            self.assertEqual(handed, [to] if to in there else [])

    def test_letters_that_fly_in_calm(self):
        met = Counter()
        for seed in range(150):
            run = started(5000 + seed, most=8)
            for turn in range(run.made.randint(0, 40)):
                run.do(self, *made_deed(run.made, run.words))
            for group in GROUPS:
                if run.made.random() < 0.7:
                    run.settle(self, group)
            if not run.callers:
                continue
            # Several at once, while those from ahead of the calm may still be under way.
            posted = []
            for turn in range(6):
                sender = run.made.randrange(len(run.callers))
                alike = [caller for caller, told in enumerate(run.callers) if told[1] == run.callers[sender][1]]
                to = run.made.choice([None] + alike)
                number = run.do(self, "post", sender, to)
                posted.append((number, sender, to, run.net.place(sender)))
                for step in range(run.made.randint(0, 3)):
                    if run.words.air:
                        run.do(self, "pass_on", run.made.randrange(len(run.words.air)))
            self.emptied(run)
            for each in posted:
                self.held(run, *each)
                met["all" if each[2] is None else "one", len(run.net.story(each[0])) > 2] += 1
        for kind in (("all", True), ("one", True)):
            self.assertGreater(met[kind], 50)

    def test_news_of_other_groups_does_not_break_it(self):
        for seed in range(60):
            run = started(6000 + seed, most=6)
            run.settle(self, 0)
            senders = [caller for caller, told in enumerate(run.callers) if told[1] == 0]
            if not senders:
                continue
            sender = run.made.choice(senders)
            to = run.made.choice([None] + senders)
            number = run.do(self, "post", sender, to)
            first = run.net.place(sender)
            others = [caller for caller, told in enumerate(run.callers) if told[1] != 0]
            while run.words.air:
                run.do(self, "call", run.made.randrange(run.town.size), run.made.choice((1, 2)))
                if others:
                    run.do(self, "move", run.made.choice(others), run.made.randrange(run.town.size))
                run.do(self, "pass_on", run.made.randrange(len(run.words.air)))
            self.held(run, number, sender, to, first)


class WhateverIsDone(unittest.TestCase):
    def notes_lead(self, run):
        """The route from a note's house to the noted caller's begins with the noted rope."""
        for group in GROUPS:
            for house, caller, rope in run.net.notes(group):
                self.assertEqual(run.callers[caller][1], group)
                route = route_by_words(run.words, group, house, run.net.place(caller))
                self.assertIsNotNone(route)
                self.assertEqual(route[:1], [rope])

    def once_only(self, run, moved):
        for number in range(len(run.words.sent)):
            story = run.net.story(number)
            done = [deed[1] for deed in story if deed[0] in ("post", "come")]
            self.assertEqual(len(done), len(set(done)))
            flown = [deed[1:3] for deed in story if deed[0] == "send"]
            self.assertEqual(len(flown), len(set(flown)))
            handed = [deed[1:] for deed in story if deed[0] == "hand"]
            self.assertEqual(len(handed), len(set(handed)))
            ended = [deed for deed in story if deed[0] in ("come", "twice", "lost")]
            flying = [each for each in run.net.flying() if each[0] == number]
            self.assertEqual(len(flown), len(ended) + len(flying))
            stayed = [caller for house, caller in handed if caller not in moved]
            self.assertEqual(len(stayed), len(set(stayed)))

    def test_made_runs(self):
        notes = 0
        for seed in range(100):
            run = started(7000 + seed, most=7)
            deeds = run.made.choice([made_deed, made_wild_deed])
            moved = set()
            for turn in range(80):
                deed = deeds(run.made, run.words)
                if deed[0] == "move":
                    moved.add(deed[1])
                run.do(self, *deed)
                self.notes_lead(run)
                notes += sum(len(run.net.notes(group)) for group in GROUPS)
            self.once_only(run, moved)
        self.assertGreater(notes, 500)


if __name__ == "__main__":
    unittest.main()

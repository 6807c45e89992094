import random
import unittest
from collections import Counter

from knotless.desk import Desk
from knotless.errors import Apart, BadTown, NoCaller, NoCopy, NoGroup, NoHouse, NoLetter, NoText, NoWire
from net_by_words import GROUPS, NetByWords, made_callers, made_deed, made_full_town, made_ring_town, made_wild_deed

SAMPLE = "names 7 3 9; rope 0 1 4 2 7; rope 1 2 5 1 1; caller 0 0; caller 2 0"
VAST = "9" * 60

# The town of tests/test_net.py, with callers of each group.
TEXT = ("names 5 2 8 3 9; rope 0 1 1 2 7; rope 1 2 1 3 7; rope 2 0 5 1 7; rope 2 3 1 1 1; rope 3 4 2 4 3;"
        " caller 0 0; caller 2 0; caller 4 0; caller 4 0; caller 1 1; caller 0 2; caller 2 1")
HOUSES, ROPES, CALLERS = 5, 5, 7

NO_ROWS = [
    "", " ", "  ", "call", "call ", "call 0", "call 0 ", "call 0 0 ", " call 0 0", "call  0 0", "call 0  0",
    "call 0 0 0",
    "call 0 0\n", "\ncall 0 0", "call\t0 0", "call 0\t0", "Call 0 0", "CALL 0 0", "calls 0 0", "call x 0", "call 0 x",
    "call -1 0", "call 0 -1", "call +1 0", "call 01 0", "call 0 00", "call 0, 0", "call 0 all", "call all 0",
    "call 0 -", "call 0.0 0", "call 0;0", "call 0 0;", "call 0 0; run", "call " + "1" * 61 + " 0",
    "call 0 \u0661", "call 0 \u00b2",
    "round", "round ", "round x", "round -1", "round 0 0", "round 00", "round all", "Round 0",
    "rest", "rest x", "rest -1", "rest 0 0", "rest 01", "resting 0",
    "row", "row 0", "row 0 0 0", "row x 0", "row 0 x", "row -1 0", "row 0 -1", "rows 0", "row 00 0",
    "open", "open ", "open x", "open -1", "open 0 0", "opens 0",
    "fall", "fall 0", "fall 0 0 0", "fall x 0", "fall 0 x", "fall -1 0", "fall 0 -1", "fall 0 01", "falls 0 0",
    "lay", "lay 0", "lay 0 0 0", "lay x 0", "lay 0 x", "lay -1 0", "lay 0 -1", "lays 0 0",
    "move", "move 0", "move 0 0 0", "move x 0", "move 0 x", "move -1 0", "move 0 -1", "move 0 all", "move all 0",
    "post", "post ", "post 0", "post 0 ", "post all", "post all 0", "post all all", "post 0 all all", "post 0 0 all",
    "post 0 All", "post 0 ALL", "post 0 all ", "post 0  all", "post  0 all", "post 0 all 0", "post 0 0 0", "post 0 -1",
    "post -1 0", "post -1 all", "post x all", "post 00 all", "post 0 -", "post 0 None", "post 0 none", "post 0 every",
    "pass", "pass ", "pass x", "pass -1", "pass 0 0", "pass 00", "pass_on 0", "pass all", "pass on 0",
    "run 0", "run ", " run", "Run", "run run", "run all", "runs",
    "flying 0", "flying ", " flying", "Flying", "fly", "flying all",
    "had", "had x", "had -1", "had 0 0", "had 00", "had all",
    "story", "story x", "story -1", "story 0 0", "story 00", "story all",
    "names 1", "rope 0 1 1 1 1", "caller 0 0", "live 0", "notes 0", "place 0", "say run", "help", "x", "0", "-",
    ";", "all",
    "\u00a0run", "run\u00a0", "run\r", "run\n", "run; flying", "run flying",
]


def said(desk, *rows):
    return [desk.say(row) for row in rows]


def settled_desk(text=TEXT):
    desk = Desk(text)
    for group in GROUPS:
        while desk.say(f"rest {group}") != "yes":
            desk.say(f"round {group}")
    return desk


def told(desk, houses=HOUSES, callers=CALLERS):
    """All that a desk tells without a change."""
    answers = [desk.say("flying")]
    for group in GROUPS:
        answers.extend([desk.say(f"rest {group}"), desk.say(f"open {group}")])
        answers.extend(desk.say(f"row {house} {group}") for house in range(houses))
    answers.extend(desk.say(f"had {caller}") for caller in range(callers))
    letter = 0
    while True:
        try:
            answers.append(desk.say(f"story {letter}"))
        except NoLetter:
            return answers
        letter += 1


class Made(unittest.TestCase):
    def test_of_the_sample(self):
        desk = Desk(SAMPLE)
        self.assertEqual(said(desk, "row 0 0", "row 1 0", "row 2 2"), ["7 0 0 -", "3 0 0 -", "9 0 0 -"])
        self.assertEqual(said(desk, "round 0", "rest 0", "open 0", "post 0 1", "run", "had 1"),
                         ["2", "yes", "0 1", "0", "2", "0"])

    def test_of_the_least_text(self):
        desk = Desk("names 0")
        self.assertEqual(said(desk, "row 0 0", "round 2", "rest 1", "open 0", "flying", "run"),
                         ["0 0 0 -", "0", "yes", "-", "0", "0"])

    def test_texts_that_are_no_towns_text(self):
        for text in ("", "names", "names ", "names x", "names 7 3 9 ", " names 7", "names 7; ", "names 7;caller 0 0",
                     "names 7; caller 0", "names 7; rope 0 1 1 1", "names 7 3; caller 0 0; rope 0 1 1 1 1", "run",
                     "names -1", "names 07", "names 7\n", "names " + "1" * 61, SAMPLE + ";"):
            with self.subTest(text):
                self.assertRaises(NoText, Desk, text)

    def test_texts_of_no_such_town(self):
        for text in ("names 7 7", "names" + " 1" * 2, "names 0 1 2 3 4 5 6 7 8 9 10", "names 7 3; rope 0 0 1 1 1",
                     "names 7 3; rope 0 2 1 1 1", "names 7 3; rope 2 0 1 1 1", "names 7 3; rope 0 1 0 1 1",
                     "names 7 3; rope 0 1 1 0 1", "names 7 3; rope 0 1 1 5 1", "names 7 3; rope 0 1 1 1 0",
                     "names 7 3; rope 0 1 1 1 8", "names 7 3" + "; rope 0 1 1 1 1" * 21, "names 7; caller 1 0",
                     "names 7; caller 0 3", "names 7" + "; caller 0 0" * 21, f"names 7; caller {VAST} 0",
                     f"names 7; caller 0 {VAST}", f"names 7 3; rope 0 {VAST} 1 1 1",
                     "names 7 3; rope 0 1 1 1 9; caller 0 9"):
            with self.subTest(text):
                self.assertRaises(BadTown, Desk, text)

    def test_the_most_that_a_town_has(self):
        text = "names 0 1 2 3 4 5 6 7 8 9" + f"; rope 8 9 {VAST} 4 7" * 20 + "; caller 9 2" * 20
        desk = Desk(text)
        self.assertEqual(said(desk, "round 2", "row 9 2", "open 2", "had 19"), ["1", f"8 {VAST} 1 0", "0", "-"])
        self.assertRaises(NoCaller, desk.say, "had 20")

    def test_no_text_is_asked_ahead_of_bad_town(self):
        for text in ("names 7 7 x", "names 7 7; caller 0", "names 7 3; rope 0 0 1 1 1; knot",
                     "names 7; caller 5 5; rope 0", "names 7" + "; caller 0 0" * 21 + "; ",
                     "names 7 7; caller 0 0; rope 0 1 1 1 1"):
            with self.subTest(text):
                self.assertRaises(NoText, Desk, text)

    def test_arguments_by_their_names(self):
        self.assertEqual(Desk(text="names 4").say(row="row 0 0"), "4 0 0 -")


class Rows(unittest.TestCase):
    def test_call(self):
        desk = Desk(TEXT)
        self.assertEqual(said(desk, "call 0 0", "call 0 0", "call 1 0", "call 0 1", "call 4 2"),
                         ["new", "same", "same", "new", "same"])

    def test_round(self):
        desk = Desk(TEXT)
        # Rising, one after another: house 3 takes what house 2 has just taken.
        self.assertEqual(said(desk, "round 0", "round 0", "round 1", "round 2", "round 1", "round 2"),
                         ["4", "0", "3", "2", "0", "0"])

    def test_round_is_each_house_once(self):
        desk = Desk("names 4 3 2 1; rope 0 1 1 1 1; rope 1 2 1 1 1; rope 2 3 1 1 1")
        self.assertEqual(said(desk, "round 0", "row 0 0", "row 1 0", "row 2 0"), ["3", "3 1 1 0", "2 1 1 1", "1 1 1 2"])
        self.assertEqual(said(desk, "round 0", "row 0 0", "row 1 0", "row 2 0"), ["2", "2 2 2 0", "1 2 2 1", "1 1 1 2"])
        self.assertEqual(said(desk, "round 0", "round 0", "row 0 0"), ["1", "0", "1 3 3 0"])

    def test_rest(self):
        desk = Desk(TEXT)
        self.assertEqual(said(desk, "rest 0", "rest 1", "rest 2"), ["no", "no", "no"])
        desk.say("round 2")
        self.assertEqual(said(desk, "rest 0", "rest 1", "rest 2"), ["no", "no", "yes"])

    def test_row(self):
        desk = settled_desk()
        self.assertEqual([desk.say(f"row {house} 0") for house in range(5)],
                         ["2 1 1 0", "2 0 0 -", "2 1 1 1", "2 2 2 3", "2 4 3 4"])
        self.assertEqual([desk.say(f"row {house} 1") for house in range(5)],
                         ["2 1 1 0", "2 0 0 -", "2 1 1 1", "3 0 0 -", "3 2 1 4"])

    def test_open(self):
        desk = Desk(TEXT)
        self.assertEqual(said(desk, "open 0", "open 1", "open 2"), ["-", "-", "-"])
        desk.say("call 0 1")
        self.assertEqual(said(desk, "open 0", "open 1", "open 2"), ["-", "0", "-"])
        self.assertEqual(said(settled_desk(), "open 0", "open 1", "open 2"), ["0 1 3 4", "0 1 4", "0 1"])

    def test_open_rising_by_number_not_by_figures(self):
        text = "names 0 1 2 3 4" + "; rope 0 1 9 1 1" * 9
        text = text + "; rope 0 1 1 1 1; rope 0 2 1 1 1; rope 2 3 1 1 1; rope 1 4 1 1 1"
        desk = settled_desk(text)
        self.assertEqual(desk.say("open 0"), "9 10 11 12")
        desk = settled_desk(text.replace("rope 0 1 9 1 1", "rope 0 1 1 1 1", 3))
        self.assertEqual(desk.say("open 0"), "0 10 11 12")

    def test_fall_and_lay(self):
        desk = settled_desk()
        self.assertEqual(said(desk, "fall 0 1", "fall 0 0", "lay 0 0", "lay 0 1"), ["same", "ends", "begins", "same"])
        self.assertEqual(said(desk, "fall 3 0", "open 0", "lay 3 0", "open 0"), ["ends", "0 1 4", "begins", "0 1 3 4"])

    def test_move(self):
        desk = settled_desk()
        self.assertEqual(said(desk, "move 0 4", "move 0 4", "post 2 all", "had 0", "had 3"),
                         ["ok", "ok", "0", "0", "0"])

    def test_post(self):
        desk = settled_desk()
        self.assertEqual(said(desk, "post 0 all", "post 0 1", "post 3 3", "post 4 all"), ["0", "1", "2", "3"])
        self.assertEqual(said(desk, "story 0", "story 1", "story 2", "story 3"),
                         ["post 0, send 0 0 0", "post 0, send 0 0 0", "post 4, hand 4 3",
                          "post 1, send 1 0 0, send 1 1 1"])

    def test_pass(self):
        desk = settled_desk()
        self.assertEqual(said(desk, "post 1 all", "flying", "pass 1", "flying", "pass 0"),
                         ["0", "2", "come", "2", "come"])
        self.assertEqual(desk.say("story 0"),
                         "post 2, send 2 1 1, send 2 3 0, come 3 3, send 3 4 1, come 1 1, send 1 0 1")

    def test_pass_twice_and_lost(self):
        rows = ("call 1 0", "call 2 0", "post 0 all", "call 1 0", "pass 1", "pass 1")
        text = "names 1 2 3; rope 0 1 3 1 7; rope 0 2 1 1 7; rope 1 2 1 1 7; caller 0 0; caller 1 0; caller 2 0"
        desk = Desk(text)
        self.assertEqual(said(desk, *rows), ["new", "new", "0", "new", "come", "come"])
        self.assertEqual(said(desk, "pass 0", "flying"), ["lost", "0"])
        self.assertEqual(desk.say("story 0"), "post 0, send 0 0 0, send 0 1 0, come 2 1, hand 2 2, send 2 2 0,"
                                              " come 1 2, hand 1 1, lost 1 0")
        desk = Desk(text)
        said(desk, *rows)
        self.assertEqual(said(desk, "fall 2 0", "call 1 0", "pass 0"), ["ends", "new", "twice"])
        self.assertTrue(desk.say("story 0").endswith(", hand 1 1, twice 1 0"))

    def test_run(self):
        desk = settled_desk()
        self.assertEqual(said(desk, "run", "post 0 all", "post 4 all", "run", "flying", "run"),
                         ["0", "0", "1", "6", "0", "0"])
        self.assertEqual(said(desk, "had 1", "had 2", "had 3", "had 4", "had 6"), ["0", "0", "0", "-", "1"])

    def test_run_counts_lost_ones_too(self):
        desk = Desk("names 1 2 3; rope 0 1 3 1 7; rope 0 2 1 1 7; rope 1 2 1 1 7; caller 0 0; caller 1 0; caller 2 0")
        said(desk, "call 1 0", "call 2 0", "post 0 all", "call 1 0")
        self.assertEqual(said(desk, "flying", "run"), ["2", "3"])
        self.assertEqual(desk.say("story 0"), "post 0, send 0 0 0, send 0 1 0, lost 1 0, come 2 1, hand 2 2,"
                                              " send 2 2 0, come 1 2, hand 1 1")

    def test_run_lets_the_first_copy_arrive(self):
        desk = settled_desk()
        said(desk, "post 1 all", "run")
        self.assertEqual(desk.say("story 0"), "post 2, send 2 1 1, send 2 3 0, come 1 1, send 1 0 1, come 3 3,"
                                              " send 3 4 1, come 0 0, hand 0 0, come 4 4, hand 4 2, hand 4 3")

    def test_flying(self):
        desk = settled_desk()
        self.assertEqual(said(desk, "flying", "post 1 all", "flying", "post 1 all", "flying", "fall 3 0", "flying"),
                         ["0", "0", "2", "1", "4", "ends", "2"])

    def test_had(self):
        desk = settled_desk()
        self.assertEqual(said(desk, "had 0", "post 0 0", "had 0", "post 1 all", "post 0 0", "had 0", "run", "had 0"),
                         ["-", "0", "0", "1", "2", "0 2", "4", "0 2 1"])

    def test_had_again_by_one_who_moved(self):
        desk = settled_desk()
        self.assertEqual(said(desk, "post 0 all", "move 1 1", "pass 0", "move 1 2", "pass 0", "had 1"),
                         ["0", "ok", "come", "ok", "come", "0 0"])

    def test_story(self):
        desk = settled_desk()
        said(desk, "post 2 1", "fall 4 0", "run")
        self.assertEqual(desk.say("story 0"), "post 4, send 4 4 0, lost 3 4")

    def test_numbers_of_several_figures(self):
        desk = Desk(f"names {VAST} 12; rope 0 1 {VAST} 1 1" + "; caller 0 0" * 12)
        self.assertEqual(said(desk, "round 0", "row 0 0"), ["1", f"12 {VAST} 1 0"])
        for number in range(12):
            self.assertEqual(desk.say("post 11 11"), str(number))
        self.assertEqual(said(desk, "had 11", "story 11"), ["0 1 2 3 4 5 6 7 8 9 10 11", "post 0, hand 0 11"])

    def test_costs_of_more_than_sixty_figures_are_told(self):
        desk = settled_desk(f"names 2 1 0; rope 0 1 {VAST} 1 1; rope 1 2 {VAST} 1 1")
        self.assertEqual(desk.say("row 0 0"), f"0 1{'9' * 59}8 2 0")

    def test_answers_are_texts(self):
        desk = settled_desk()
        for row in ("call 0 0", "round 0", "rest 0", "row 0 0", "open 0", "fall 0 0", "lay 0 0", "move 0 1",
                    "post 0 all", "post 0 1", "pass 0", "run", "flying", "had 0", "story 0"):
            self.assertIsInstance(desk.say(row), str)


class Refused(unittest.TestCase):
    def setUp(self):
        # Something of each kind is there that a refused row could change, and letters fly.
        self.desk = settled_desk()
        said(self.desk, "post 0 all", "run", "fall 4 1", "fall 3 0", "post 1 all", "post 4 all", "call 4 0")
        self.before = told(self.desk)

    def refused(self, error, *rows):
        for row in rows:
            with self.subTest(row):
                self.assertRaises(error, self.desk.say, row)
                self.assertEqual(told(self.desk), self.before)

    def test_rows_that_are_none(self):
        self.refused(NoText, *NO_ROWS)

    def test_no_text_is_asked_first(self):
        self.refused(NoText, "call 99 x", "call x 99", "round 99 0", "row 99 -1", "fall 99 x", "lay x 99", "move 99 x",
                     "post 99 x", "post x 99", "post 99", "pass 99 99", "had 99 99", "story 99 99", "run 99",
                     "open 9 9")

    def test_call_and_row(self):
        for kind in ("call", "row"):
            self.refused(NoHouse, f"{kind} 5 0", f"{kind} 6 0", f"{kind} {VAST} 0", f"{kind} 5 3",
                         f"{kind} {VAST} {VAST}")
            self.refused(NoGroup, f"{kind} 0 3", f"{kind} 4 4", f"{kind} 0 7", f"{kind} 0 {VAST}")

    def test_groups(self):
        for kind in ("round", "rest", "open"):
            self.refused(NoGroup, f"{kind} 3", f"{kind} 4", f"{kind} 7", f"{kind} {VAST}")

    def test_fall_and_lay(self):
        self.refused(NoWire, "fall 5 0", f"fall {VAST} 0", "fall 0 2", f"fall 0 {VAST}", "fall 5 9", "fall 4 1",
                     "fall 3 0")
        self.refused(NoWire, "lay 5 0", f"lay {VAST} 0", "lay 0 2", f"lay 0 {VAST}", "lay 5 9", "lay 0 0", "lay 4 0")

    def test_move(self):
        self.refused(NoCaller, "move 7 0", f"move {VAST} 0", "move 7 5", f"move {VAST} {VAST}")
        self.refused(NoHouse, "move 0 5", "move 6 6", f"move 0 {VAST}")

    def test_post(self):
        self.refused(NoCaller, "post 7 all", f"post {VAST} all", "post 7 0", "post 0 7", "post 7 7", "post 7 4",
                     "post 4 7", f"post 0 {VAST}", f"post {VAST} 0")
        self.refused(Apart, "post 0 4", "post 4 0", "post 0 5", "post 5 6", "post 4 5")

    def test_pass(self):
        self.assertEqual(self.desk.say("flying"), "3")
        self.refused(NoCopy, "pass 3", "pass 4", f"pass {VAST}")
        self.desk.say("run")
        self.before = told(self.desk)
        self.refused(NoCopy, "pass 0", "pass 1")

    def test_had_and_story(self):
        self.refused(NoCaller, "had 7", "had 8", f"had {VAST}")
        self.refused(NoLetter, "story 3", "story 4", f"story {VAST}")

    def test_notes_stay_behind_refusals(self):
        # A letter to one that is led by a note goes over one rope; were the notes gone, it would go over two.
        def led(*rows):
            desk = settled_desk()
            said(desk, "post 0 all", "run")
            for row in rows:
                self.assertRaises(ValueError, desk.say, row)
            return said(desk, "post 1 0", "story 1")
        rows = ("call 5 0", "call 0 3", "fall 9 0", "fall 2 1", "lay 2 0", "move 1 9", "move 9 1", "post 0 4",
                "post 9 all", "pass 0", "round 3", "move 1 1 1", "call 0")
        self.assertEqual(led(*rows), ["1", "post 2, send 2 1 2"])
        self.assertEqual(led(), ["1", "post 2, send 2 1 2"])

    def test_words_behind_refusals_go_on(self):
        self.assertRaises(NoText, self.desk.say, "x")
        self.assertRaises(Apart, self.desk.say, "post 0 4")
        self.assertEqual(self.desk.say("post 0 0"), "3")


class DesksApart(unittest.TestCase):
    def test_two_desks_of_one_text(self):
        one = settled_desk()
        other = settled_desk()
        before = told(other)
        said(one, "post 0 all", "run", "fall 3 0", "move 1 4", "round 0")
        self.assertEqual(told(other), before)


class AgainstTheWords(unittest.TestCase):
    """Made rows, answered by the net told by words and written as point [22] says."""

    def written(self, numbers):
        return " ".join("-" if number is None else str(number) for number in numbers) or "-"

    def text_of(self, town, callers):
        parts = [("names",) + tuple(town.name(house) for house in range(town.size))]
        parts = parts + [("rope",) + town.rope(rope) for rope in range(town.many)]
        parts = parts + [("caller",) + caller for caller in callers]
        return "; ".join(" ".join(map(str, part)) for part in parts)

    def row_of(self, deed, *numbers):
        if deed == "post" and (len(numbers) == 1 or numbers[1] is None):
            return f"post {numbers[0]} all"
        return " ".join([{"pass_on": "pass"}.get(deed, deed)] + [str(number) for number in numbers])

    def answer_by_words(self, deed, answer):
        if deed == "move":
            return "ok"
        words = {"call": ("same", "new"), "fall": ("same", "ends"), "lay": ("same", "begins")}.get(deed)
        return words[answer] if words else str(answer)

    def compared(self, desk, words, callers):
        self.assertEqual(desk.say("flying"), str(len(words.flying())))
        for group in GROUPS:
            self.assertEqual(desk.say(f"rest {group}"), "yes" if words.resting(group) else "no")
            self.assertEqual(desk.say(f"open {group}"), self.written(words.opens(group)))
            for house, row in enumerate(words.rows(group)):
                self.assertEqual(desk.say(f"row {house} {group}"), self.written(row))
        for caller in range(len(callers)):
            self.assertEqual(desk.say(f"had {caller}"), self.written(words.had(caller)))
        for letter in range(len(words.sent)):
            story = ", ".join(" ".join(map(str, deed)) for deed in words.story(letter))
            self.assertEqual(desk.say(f"story {letter}"), story)

    def did_all(self, desk, words, made):
        """Now and then a round or a run, which are many deeds by one row."""
        if made.random() < 0.1:
            group = made.choice(GROUPS)
            changed = sum(words.call(house, group) for house in range(words.town.size))
            self.assertEqual(desk.say(f"round {group}"), str(changed))
        if made.random() < 0.05:
            arrived = 0
            while words.air:
                words.pass_on()
                arrived += 1
            self.assertEqual(desk.say("run"), str(arrived))

    def did(self, desk, words, deed, *numbers):
        row = self.row_of(deed, *numbers)
        if any(number is not None and number < 0 for number in numbers):
            self.assertRaises(NoText, desk.say, row)
            return "NoText"
        refusal = words.refusal(deed, *numbers)
        if refusal:
            self.assertRaises(refusal, desk.say, row)
            return refusal.__name__
        answer = self.answer_by_words(deed, getattr(words, deed)(*numbers))
        self.assertEqual(desk.say(row), answer)
        return answer

    def test_made_rows(self):
        met = Counter()
        for seed in range(90):
            made = random.Random(seed)
            town = made.choice([made_ring_town, made_full_town])(made)
            deeds = made.choice([made_deed, made_wild_deed])
            callers = made_callers(made, town, 8)
            desk = Desk(self.text_of(town, callers))
            words = NetByWords(town, callers)
            for turn in range(70):
                self.did_all(desk, words, made)
                met[self.did(desk, words, *deeds(made, words))] += 1
                if turn % 5 == 0:
                    self.compared(desk, words, callers)
            self.compared(desk, words, callers)
        for answer in ("new", "same", "ends", "begins", "ok", "come", "lost", "0", "NoText", "NoWire", "NoCaller",
                       "NoHouse", "NoGroup", "NoCopy", "Apart"):
            self.assertGreater(met[answer], 0, answer)


if __name__ == "__main__":
    unittest.main()

"""Pairs: the ends that all weavings of one asking come to."""

import unittest

from ringingcalls.askeds import Asked
from ringingcalls.askers import ANSWERS, SORTS, Asker
from ringingcalls.errors import NoNumber, NoSort
from ringingcalls.pairs import pair_ends
from tests.helper import ODD, STRANGE, spoil

NONE_LOST = {
    "ring": [
        ("late", "no"), ("late", "none"), ("late", "taken"), ("no", "no"), ("none", "none"), ("taken", "taken"),
    ],
    "other": [("done", "done"), ("late", "done"), ("late", "no"), ("late", "none"), ("no", "no")],
}
# A ring that rang, and whose end was said but lost: the asker has none yet when the beats are over.
SOME_LOST = {"ring": sorted(NONE_LOST["ring"] + [("none", "no"), ("none", "taken")]), "other": NONE_LOST["other"]}


class Weaving:
    """One weaving of a pair, step by step, by the machines alone."""

    def __init__(self, sort):
        self.asker, self.asked, self.last, self.mail, self.beats = Asker(sort), None, None, ["ask"], 0

    def come(self, letter):
        """A letter under way comes."""
        self.mail.remove(letter)
        if letter == "ask" and self.asked is None:
            self.asked = Asked(self.asker.manner())
        elif letter == "ask":
            self.mail += [self.last for say in self.asked.hear_again()]
        elif letter == "sure":
            self.asked.hear_sure()
        else:
            self.mail += [what for what in self.asker.hear(letter) if what in ("ask", "sure")]

    def say(self, word):
        """The asked one says a word."""
        self.last = word
        self.mail += [self.last for say in self.asked.say(word)]

    def beat(self):
        """Both have a beat."""
        self.beats += 1
        self.mail += [what for what in self.asker.beat() if what in ("ask", "sure")]
        if self.asked is not None:
            self.mail += [self.last for say in self.asked.beat()]

    def ends(self):
        """Both ends, as words."""
        asked = None if self.asked is None else self.asked.end()
        return (self.asker.end() or "none", asked or "none")


class Ends(unittest.TestCase):
    def test_with_none_lost(self):
        for sort in SORTS:
            self.assertEqual(pair_ends(sort, 0), NONE_LOST[sort])

    def test_with_none_lost_the_same_or_late_or_none(self):
        for sort in SORTS:
            for asker, asked in pair_ends(sort, 0):
                self.assertTrue(asker == asked or asker == "late" or (asker, sort) == ("none", "ring"), (asker, asked))

    def test_with_some_lost(self):
        for sort in SORTS:
            for lost in (1, 2, 3):
                self.assertEqual(pair_ends(sort, lost), SOME_LOST[sort])

    def test_a_sorted_list_of_unlike_tuples_of_words(self):
        for sort in SORTS:
            for lost in range(4):
                ends = pair_ends(sort, lost)
                self.assertIsInstance(ends, list)
                self.assertEqual(ends, sorted(set(ends)))
                for pair in ends:
                    self.assertIsInstance(pair, tuple)
                    self.assertLessEqual(set(pair), set(ANSWERS[sort]) | {"late", "none"})
                    self.assertEqual(len(pair), 2)

    def test_with_more_lost_all_ends_with_fewer_are_there(self):
        for sort in SORTS:
            for lost in range(3):
                self.assertLessEqual(set(pair_ends(sort, lost)), set(pair_ends(sort, lost + 1)))

    def test_by_names(self):
        self.assertEqual(pair_ends(sort="ring", lost=0), NONE_LOST["ring"])
        self.assertEqual(pair_ends(lost=1, sort="ring"), SOME_LOST["ring"])

    def test_told_anew_each_time(self):
        for sort in SORTS:
            spoil(pair_ends(sort, 0))
            self.assertEqual(pair_ends(sort, 0), NONE_LOST[sort])


class Weavings(unittest.TestCase):
    def woven(self, sort, rings, says, word, lost):
        """The ends of one weaving: it rings and says a word behind so many beats, the word's letters are lost so often."""
        weaving = Weaving(sort)
        while True:
            while weaving.mail:
                letter = weaving.mail[0]
                if letter == word and lost:
                    lost -= 1
                    weaving.mail.remove(letter)
                else:
                    weaving.come(letter)
            if weaving.beats == rings:
                rings = None
                weaving.say("rings")
            elif weaving.beats == says:
                says = None
                weaving.say(word)
            elif weaving.beats == 18 or "none" not in weaving.ends():
                return weaving.ends()
            else:
                weaving.beat()

    def test_each_end_comes_of_a_weaving_and_each_weaving_is_told(self):
        for sort in SORTS:
            for lost in range(4):
                found = set()
                for rings in [None] + (list(range(19)) if sort == "ring" else []):
                    for says in [None] + list(range(rings or 0, 19)):
                        for word in ANSWERS[sort]:
                            if word != "rings":
                                found.add(self.woven(sort, rings, says, word, lost))
                self.assertLessEqual(found, set(pair_ends(sort, lost)))
                if lost < 2:
                    self.assertEqual(found | set(pair_ends(sort, 0)), set(pair_ends(sort, lost)))


class Refusals(unittest.TestCase):
    def test_no_sort(self):
        for thing in STRANGE:
            with self.assertRaises(NoSort) as caught:
                pair_ends(thing, 0)
            self.assertIs(caught.exception.thing, thing)

    def test_no_number(self):
        for thing in ODD + [4, 408, 10 ** 29, "1", [1], (1,), {1: 1}, b"1", "ring"]:
            for sort in SORTS:
                with self.assertRaises(NoNumber) as caught:
                    pair_ends(sort, thing)
                self.assertIs(caught.exception.thing, thing)

    def test_no_sort_goes_ahead_of_no_number(self):
        for lost in (-1, 4, True, None, "1"):
            with self.assertRaises(NoSort) as caught:
                pair_ends("rings", lost)
            self.assertEqual(caught.exception.thing, "rings")
            with self.assertRaises(NoSort):
                pair_ends(lost=lost, sort=None)

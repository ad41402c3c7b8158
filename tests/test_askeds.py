"""An asked one's machine: each sort and state with each saying, ask again, sure and beat."""

import random
import unittest

from ringingcalls.askeds import Asked
from ringingcalls.askers import ANSWERS, SORTS, Asker
from ringingcalls.errors import NoSort, NoWord
from tests.helper import STRANGE, beats, do, done, spoil

RINGS, TAKEN, NO, DONE = ("say", "rings"), ("say", "taken"), ("say", "no"), ("say", "done")
AGAIN, SURE = ("hear_again",), ("hear_sure",)
# How each kind of state is come to: (sort, deeds, whether it was sure then).
WAYS = {
    "goes": ("ring", [], False),
    "rang": ("ring", [RINGS], False),
    "took": ("ring", [TAKEN], False),
    "took of rang": ("ring", [RINGS, TAKEN], False),
    "told": ("ring", [NO], False),
    "told of rang": ("ring", [RINGS, NO], False),
    "quiet": ("ring", [NO, SURE], True),
    "quiet late": ("ring", [NO] + beats(15) + [SURE] + beats(3), True),
    "over of took": ("ring", [TAKEN] + beats(16), False),
    "over of told": ("ring", [NO] + beats(16), False),
    "over of quiet": ("ring", [NO, SURE] + beats(4), True),
    "other goes": ("other", [], False),
    "other done": ("other", [DONE], False),
    "other no": ("other", [NO], False),
    "other over of done": ("other", [DONE] + beats(16), False),
    "other over of no": ("other", [NO] + beats(16), False),
}
SAY = ["say"]


def still(sort, state, end, **more):
    """Nothing comes of anything, but of what is told beside."""
    comes = {word: ([], state, end) for word in ANSWERS[sort] + ("again", "sure")}
    comes.update(more)
    return comes


def going(again):
    """What comes of a ring that has no end; again: what the ask that comes again tells."""
    return still(
        "ring", "goes", None, rings=(SAY, "goes", None), taken=(SAY, "took", "taken"), no=(SAY, "told", "no"),
        again=(again, "goes", None),
    )


TOOK = still("ring", "took", "taken", taken=(SAY, "took", "taken"))
TOLD = still("ring", "told", "no", again=(SAY, "told", "no"), sure=([], "quiet", "no"))
# Of each kind: what each word said, the ask again and a sure tell, with state and end behind it.
COMES = {
    "goes": going([]), "rang": going(SAY),
    "took": TOOK, "took of rang": TOOK, "told": TOLD, "told of rang": TOLD,
    "quiet": still("ring", "quiet", "no"), "quiet late": still("ring", "quiet", "no"),
    "over of took": still("ring", "over", "taken"), "over of told": still("ring", "over", "no"),
    "over of quiet": still("ring", "over", "no"),
    "other goes": still("other", "goes", None, done=(SAY, "told", "done"), no=(SAY, "told", "no")),
    "other done": still("other", "told", "done", again=(SAY, "told", "done")),
    "other no": still("other", "told", "no", again=(SAY, "told", "no")),
    "other over of done": still("other", "over", "done"), "other over of no": still("other", "over", "no"),
}
# Of a state from its first beat on: the beats at which it says, the last beat, and the end then, over.
SAYS = {1: SAY, 3: SAY, 7: SAY, 11: SAY, 15: SAY}
LASTS = {
    "took": ({}, 16), "took of rang": ({}, 16), "told": (SAYS, 16), "told of rang": (SAYS, 16), "quiet": ({}, 4),
    "other done": ({}, 16), "other no": ({}, 16),
}


def made(way):
    """An asked one that came to its state by one of the ways."""
    sort, deeds, sure = WAYS[way]
    return done(Asked(sort), deeds)


def deed_of(word):
    """A word as the deed that it is said, or that the ask comes again, or a sure."""
    return {"again": AGAIN, "sure": SURE}.get(word, ("say", word))


def told(asked):
    """All that an asked one tells when it is asked."""
    return (asked.manner(), asked.state(), asked.end(), asked.is_sure())


class Words(unittest.TestCase):
    def test_a_new_one_goes(self):
        for sort in SORTS:
            self.assertEqual(told(Asked(sort)), (sort, "goes", None, False))
            self.assertEqual(told(Asked(sort=sort)), (sort, "goes", None, False))

    def test_each_word_in_each_state(self):
        for way, comes in COMES.items():
            for word, (what, state, end) in comes.items():
                asked = made(way)
                sure = WAYS[way][2] or (word == "sure" and way in ("told", "told of rang"))
                self.assertEqual(do(asked, deed_of(word)), what, (way, word))
                self.assertEqual(told(asked), (WAYS[way][0], state, end, sure), (way, word))
                self.assertIsInstance(asked.is_sure(), bool)

    def test_every_state_is_gone_through(self):
        self.assertEqual(set(COMES), set(WAYS))
        for way, comes in COMES.items():
            self.assertEqual(set(comes), set(ANSWERS[WAYS[way][0]]) | {"again", "sure"}, way)

    def test_words_by_their_name(self):
        for way, comes in COMES.items():
            for word in comes:
                if word not in ("again", "sure"):
                    self.assertEqual(made(way).say(word=word), comes[word][0], (way, word))

    def test_the_ask_again_says_in_goes_only_what_was_said(self):
        asked = Asked("ring")
        self.assertEqual([asked.hear_again(), asked.hear_again()], [[], []])
        asked.say("rings")
        self.assertEqual([asked.hear_again(), asked.hear_again()], [SAY, SAY])
        asked.say("taken")
        self.assertEqual([asked.hear_again(), asked.hear_again()], [[], []])
        asked = Asked("other")
        self.assertEqual([asked.hear_again(), asked.say("done"), asked.hear_again()], [[], SAY, SAY])

    def test_words_again_and_again(self):
        asked = Asked("ring")
        self.assertEqual([asked.say("rings") for again in range(5)], [SAY] * 5)
        self.assertEqual([asked.say("taken") for again in range(5)], [SAY] * 5)
        asked = made("told")
        self.assertEqual([asked.say("no") for again in range(5)], [[]] * 5)

    def test_a_sure_of_other_is_nothing(self):
        for way in ("other goes", "other done", "other no"):
            asked = made(way)
            self.assertEqual(asked.hear_sure(), [])
            self.assertEqual(asked, made(way))
            self.assertIs(asked.is_sure(), False)

    def test_it_stays_sure(self):
        asked = made("quiet")
        for beat in range(10):
            asked.beat()
            asked.hear_sure()
            self.assertIs(asked.is_sure(), True)
        self.assertEqual(asked.state(), "over")


class Beats(unittest.TestCase):
    def test_one_by_one_to_the_bound_and_beyond(self):
        for way, (tells, last) in LASTS.items():
            asked = made(way)
            first = told(asked)
            for beat in range(1, last + 1):
                self.assertEqual(told(asked), first, (way, beat))
                self.assertEqual(asked.beat(), tells.get(beat, []), (way, beat))
            self.assertEqual(told(asked), (first[0], "over", first[2], first[3]), way)
            self.assertEqual([asked.beat() for beat in range(40)], [[]] * 40, way)
            self.assertEqual(told(asked), (first[0], "over", first[2], first[3]), way)

    def test_goes_and_over_count_none(self):
        for way in WAYS:
            asked = made(way)
            if asked.state() in ("goes", "over"):
                self.assertEqual([asked.beat() for beat in range(200)], [[]] * 200, way)
                self.assertEqual(asked, made(way), way)
                self.assertEqual(told(asked), told(made(way)), way)

    def test_beats_in_goes_count_for_nothing_later(self):
        for deeds, way in (([TAKEN], "took"), ([NO], "told"), ([NO, SURE], "quiet")):
            self.assertEqual(done(Asked("ring"), beats(50) + deeds), made(way))
        self.assertEqual(done(Asked("other"), beats(50) + [DONE]), made("other done"))

    def test_nothing_begins_the_beats_anew(self):
        for way, (tells, last) in LASTS.items():
            for word in COMES[way]:
                if COMES[way][word][1] == made(way).state():
                    asked = done(made(way), beats(last - 1))
                    do(asked, deed_of(word))
                    asked.beat()
                    self.assertEqual(asked.state(), "over", (way, word))

    def test_quiet_counts_from_the_sure(self):
        for ahead in range(16):
            asked = done(made("told"), beats(ahead) + [SURE])
            self.assertEqual(asked.state(), "quiet")
            self.assertEqual([asked.beat() for beat in range(3)], [[]] * 3)
            self.assertEqual(asked.state(), "quiet")
            asked.beat()
            self.assertEqual(asked.state(), "over")


class Lists(unittest.TestCase):
    def test_a_list_that_was_told_is_the_askers_own(self):
        for way, comes in COMES.items():
            for deed in [deed_of(word) for word in comes] + [("beat",)]:
                asked, like = made(way), made(way)
                spoil(do(asked, deed))
                do(like, deed)
                self.assertEqual(asked, like, (way, deed))
                self.assertEqual(told(asked), told(like), (way, deed))
                self.assertEqual(do(asked, deed), do(like, deed), (way, deed))

    def test_a_list_is_told_anew_each_time(self):
        asked = made("rang")
        self.assertIsNot(asked.say("rings"), asked.say("rings"))
        self.assertIsNot(asked.hear_again(), asked.hear_again())
        self.assertIsNot(asked.beat(), asked.beat())


class Twins(unittest.TestCase):
    def test_a_twin_is_alike(self):
        for way in WAYS:
            asked = made(way)
            twin = asked.twin()
            self.assertIsNot(twin, asked)
            self.assertIsInstance(twin, Asked)
            self.assertTrue(twin == asked, way)
            self.assertFalse(twin != asked, way)
            self.assertEqual(told(twin), told(asked), way)

    def test_a_twin_goes_on_by_itself(self):
        for way, comes in COMES.items():
            for deed in [deed_of(word) for word in comes] + [("beat",)]:
                asked = made(way)
                twin = asked.twin()
                expected = do(made(way), deed)
                self.assertEqual(do(twin, deed), expected, (way, deed))
                self.assertEqual(told(asked), told(made(way)), (way, deed))
                self.assertEqual(asked, made(way), (way, deed))
                after = told(twin)
                self.assertEqual(do(asked, deed), expected, (way, deed))
                self.assertEqual(told(twin), after, (way, deed))
                self.assertEqual(asked, twin, (way, deed))


class Alike(unittest.TestCase):
    def unlike(self, first, second):
        self.assertFalse(first == second)
        self.assertFalse(second == first)
        self.assertTrue(first != second)

    def test_sort(self):
        self.unlike(Asked("ring"), Asked("other"))
        self.unlike(made("told"), made("other no"))
        self.assertEqual(Asked("ring"), Asked("ring"))

    def test_state(self):
        self.unlike(made("goes"), made("took"))
        self.unlike(made("told"), made("over of told"))

    def test_beats_in_the_state(self):
        for way in LASTS:
            asked = made(way)
            asked.beat()
            self.unlike(asked, made(way))

    def test_end(self):
        self.unlike(made("over of took"), made("over of told"))
        self.unlike(made("other done"), made("other no"))

    def test_whether_something_was_said(self):
        self.unlike(made("goes"), made("rang"))
        # What ends it is said while it goes, too.
        self.assertEqual(made("took"), made("took of rang"))
        self.assertEqual(made("told"), made("told of rang"))

    def test_whether_it_was_sure(self):
        self.unlike(made("over of told"), made("over of quiet"))

    def test_things_of_other_kinds(self):
        for way in WAYS:
            asked = made(way)
            for thing in STRANGE + [Asker("ring"), Asker("other"), Asked, told(asked), way]:
                self.assertIs(asked == thing, False)
                self.assertIs(asked != thing, True)


class Refusals(unittest.TestCase):
    def test_no_sort(self):
        for thing in STRANGE + ["no", "taken", "done", "rings"]:
            with self.assertRaises(NoSort) as caught:
                Asked(thing)
            self.assertIs(caught.exception.thing, thing)
            with self.assertRaises(NoSort):
                Asked(sort=thing)

    def test_no_word(self):
        others = {"ring": ["done", "ring", "other", "say"], "other": ["rings", "taken", "ring", "other", "say"]}
        for way, (sort, deeds, sure) in WAYS.items():
            for thing in STRANGE + others[sort]:
                asked = made(way)
                with self.assertRaises(NoWord) as caught:
                    asked.say(thing)
                self.assertIs(caught.exception.thing, thing)
                self.assertEqual(told(asked), told(made(way)), way)
                self.assertEqual(asked, made(way), way)


class Asking(unittest.TestCase):
    def test_what_is_asked_changes_nothing(self):
        for way in WAYS:
            asked = made(way)
            for again in range(3):
                told(asked)
                asked.twin()
                self.assertEqual(asked, made(way))
            self.assertEqual(told(asked), told(made(way)))

    def test_an_end_never_turns_and_what_is_over_is_silent(self):
        chance = random.Random(7)
        for run in range(600):
            asked = Asked(chance.choice(SORTS))
            deeds = [("say", word) for word in ANSWERS[asked.manner()]] + [AGAIN, SURE] + beats(chance.choice((3, 30)))
            for step in range(80):
                end, over, sure = asked.end(), asked.state() == "over", asked.is_sure()
                what = do(asked, chance.choice(deeds))
                if end is not None:
                    self.assertEqual(asked.end(), end)
                if over:
                    self.assertEqual((what, asked.state()), ([], "over"))
                self.assertGreaterEqual(asked.is_sure(), sure)

"""An asker's machine: each sort and state with each word, giving up and beat."""

import random
import unittest

from ringingcalls.askeds import Asked
from ringingcalls.askers import ANSWERS, LIFE, QUIET, RINGING, SORTS, Asker
from ringingcalls.errors import NoSort, NoWord
from tests.helper import STRANGE, beats, do, done, spoil

RINGS, TAKEN, NO, DONE = ("hear", "rings"), ("hear", "taken"), ("hear", "no"), ("hear", "done")
UP = ("give_up",)
# How each kind of state is come to: (sort, deeds).
WAYS = {
    "calls": ("ring", []),
    "calls late": ("ring", beats(15)),
    "marked": ("ring", [UP]),
    "goes": ("ring", [RINGS]),
    "goes late": ("ring", beats(15) + [RINGS] + beats(39)),
    "waits": ("ring", [RINGS, UP]),
    "waits late": ("ring", [RINGS] + beats(40 + 15)),
    "waits marked": ("ring", [UP, RINGS]),
    "took": ("ring", [TAKEN]),
    "took of goes": ("ring", [RINGS, TAKEN]),
    "took of waits": ("ring", [RINGS, UP, TAKEN]),
    "took marked": ("ring", [UP, TAKEN]),
    "ends": ("ring", [NO]),
    "ends of goes": ("ring", [RINGS, NO]),
    "ends of waits": ("ring", [RINGS, UP, NO]),
    "over": ("ring", beats(16)),
    "over of waits": ("ring", [RINGS, UP] + beats(16)),
    "over of took": ("ring", [TAKEN] + beats(16)),
    "over of ends": ("ring", [NO] + beats(16)),
    "other calls": ("other", []),
    "other given up": ("other", [UP]),
    "other done": ("other", [DONE]),
    "other no": ("other", [NO]),
    "other over": ("other", beats(16)),
    "other over of done": ("other", [DONE] + beats(4)),
    "other over of no": ("other", [NO] + beats(4)),
}
# Of each kind: state, end, then what rings, taken, no (or done, no) and giving up tell, with state and end behind it.
CALLING = {
    "rings": (["up"], "goes", None), "taken": (["up"], "took", "taken"), "no": (["sure", "up"], "ends", "no"),
    "give_up": ([], "calls", None),
}
WAITING = dict(CALLING, rings=(["up"], "waits", None), give_up=([], "waits", None))
TOOK = {
    "rings": ([], "took", "taken"), "taken": (["up"], "took", "taken"), "no": ([], "took", "taken"),
    "give_up": ([], "took", "taken"),
}
ENDS = {
    "rings": ([], "ends", "no"), "taken": ([], "ends", "no"), "no": (["sure"], "ends", "no"),
    "give_up": ([], "ends", "no"),
}
OTHER_CALLING = {"done": (["up"], "ends", "done"), "no": (["up"], "ends", "no"), "give_up": ([], "calls", None)}


def still(sort, state, end):
    """Nothing comes of anything."""
    return {word: ([], state, end) for word in ANSWERS[sort] + ("give_up",)}


COMES = {
    "calls": CALLING, "calls late": CALLING,
    "marked": dict(CALLING, rings=(["up", "stop"], "waits", None)),
    "goes": dict(CALLING, give_up=(["stop"], "waits", None)),
    "goes late": dict(CALLING, give_up=(["stop"], "waits", None)),
    "waits": WAITING, "waits late": WAITING, "waits marked": WAITING,
    "took": TOOK, "took of goes": TOOK, "took of waits": TOOK, "took marked": TOOK,
    "ends": ENDS, "ends of goes": ENDS, "ends of waits": ENDS,
    "over": still("ring", "over", "late"), "over of waits": still("ring", "over", "late"),
    "over of took": still("ring", "over", "taken"), "over of ends": still("ring", "over", "no"),
    "other calls": OTHER_CALLING, "other given up": OTHER_CALLING,
    "other done": still("other", "ends", "done"), "other no": still("other", "ends", "no"),
    "other over": still("other", "over", "late"), "other over of done": still("other", "over", "done"),
    "other over of no": still("other", "over", "no"),
}
# Of a state from its first beat on: the beats at which something is told, and the last one with the state and end then.
ASKS = {1: ["ask"], 3: ["ask"], 7: ["ask"], 15: ["ask"], 16: ["late"]}
OTHER_ASKS = {1: ["ask"], 3: ["ask"], 7: ["ask"], 11: ["ask"], 15: ["ask"], 16: ["late"]}
LASTS = {
    "calls": (ASKS, 16, "over", "late"), "marked": (ASKS, 16, "over", "late"),
    "goes": ({40: ["stop"], 56: ["late"]}, 40, "waits", None),
    "waits": ({16: ["late"]}, 16, "over", "late"), "waits marked": ({16: ["late"]}, 16, "over", "late"),
    "took": ({}, 16, "over", "taken"), "took of goes": ({}, 16, "over", "taken"),
    "took of waits": ({}, 16, "over", "taken"), "took marked": ({}, 16, "over", "taken"),
    "ends": ({}, 16, "over", "no"), "ends of goes": ({}, 16, "over", "no"), "ends of waits": ({}, 16, "over", "no"),
    "other calls": (OTHER_ASKS, 16, "over", "late"), "other given up": (OTHER_ASKS, 16, "over", "late"),
    "other done": ({}, 4, "over", "done"), "other no": ({}, 4, "over", "no"),
}


def made(way):
    """An asker that came to its state by one of the ways."""
    sort, deeds = WAYS[way]
    return done(Asker(sort), deeds)


def deed_of(word):
    """A word as the deed that it is heard, or that is given up."""
    return UP if word == "give_up" else ("hear", word)


def told(asker):
    """All that an asker tells when it is asked."""
    return (asker.manner(), asker.state(), asker.end(), asker.beats())


class Constants(unittest.TestCase):
    def test_as_the_interface_lists_them(self):
        self.assertEqual(SORTS, ("ring", "other"))
        self.assertIsInstance(SORTS, tuple)
        self.assertEqual(ANSWERS, {"ring": ("rings", "taken", "no"), "other": ("done", "no")})
        self.assertEqual((LIFE, QUIET, RINGING), (16, 4, 40))


class Words(unittest.TestCase):
    def test_a_new_one_calls(self):
        for sort in SORTS:
            self.assertEqual(told(Asker(sort)), (sort, "calls", None, 0))
            self.assertEqual(told(Asker(sort=sort)), (sort, "calls", None, 0))

    def test_each_word_in_each_state(self):
        for way, comes in COMES.items():
            for word, (what, state, end) in comes.items():
                asker = made(way)
                before = told(asker)
                self.assertEqual(do(asker, deed_of(word)), what, (way, word))
                self.assertEqual(told(asker), (before[0], state, end, before[3]), (way, word))

    def test_every_state_is_gone_through(self):
        self.assertEqual(set(COMES), set(WAYS))
        for way, comes in COMES.items():
            self.assertEqual(set(comes), set(ANSWERS[WAYS[way][0]]) | {"give_up"}, way)

    def test_words_by_their_name(self):
        for way, comes in COMES.items():
            for word in comes:
                if word != "give_up":
                    self.assertEqual(made(way).hear(word=word), comes[word][0], (way, word))

    def test_giving_up_again_is_nothing(self):
        for way in WAYS:
            asker = made(way)
            asker.give_up()
            first = asker.twin()
            for again in range(3):
                self.assertEqual(asker.give_up(), [], way)
                self.assertEqual(asker, first, way)
                self.assertEqual(told(asker), told(first), way)

    def test_a_mark_is_of_a_ring_that_calls_alone(self):
        for way in WAYS:
            asker = made(way)
            asker.give_up()
            if way in ("calls", "calls late"):
                self.assertNotEqual(asker, made(way), way)
                self.assertEqual(asker.hear("rings"), ["up", "stop"], way)
            elif asker.state() == made(way).state():
                self.assertEqual(asker, made(way), way)

    def test_only_the_first_rings_tells_the_stop_of_a_mark(self):
        asker = made("marked")
        self.assertEqual([asker.hear("rings"), asker.hear("rings"), asker.hear("rings")], [["up", "stop"], ["up"], ["up"]])
        self.assertEqual(asker.state(), "waits")

    def test_a_marked_one_may_be_taken_refused_or_late(self):
        self.assertEqual(made("marked").hear("taken"), ["up"])
        self.assertEqual(made("marked").hear("no"), ["sure", "up"])
        self.assertEqual([made("marked").beat() for once in range(1)], [["ask"]])

    def test_words_again_and_again_in_took_and_ends(self):
        took, ends = made("took"), made("ends")
        for again in range(5):
            self.assertEqual([took.hear("taken"), took.hear("no"), took.hear("rings")], [["up"], [], []])
            self.assertEqual([ends.hear("taken"), ends.hear("no"), ends.hear("rings")], [[], ["sure"], []])
        self.assertEqual((took.end(), ends.end()), ("taken", "no"))


class Beats(unittest.TestCase):
    def test_one_by_one_to_the_bound_and_beyond(self):
        for way, (tells, last, state, end) in LASTS.items():
            asker = made(way)
            sort, first, had, counted = told(asker)
            for beat in range(1, last + 1):
                self.assertEqual(told(asker), (sort, first, had, counted + beat - 1), (way, beat))
                self.assertEqual(asker.beat(), tells.get(beat, []), (way, beat))
            self.assertEqual(told(asker), (sort, state, end, counted + last), way)

    def test_nothing_comes_behind_the_last(self):
        for way, (tells, last, state, end) in LASTS.items():
            asker = done(made(way), beats(last))
            counted = asker.beats()
            for beat in range(last + 1, last + 70):
                self.assertEqual(asker.beat(), tells.get(beat, []), (way, beat))
                self.assertEqual(asker.beats(), counted + beat - last, (way, beat))
            self.assertEqual(asker.state(), "over", way)

    def test_beats_in_over_are_counted_in_all_alone(self):
        for way in WAYS:
            asker = made(way)
            if asker.state() == "over":
                counted = asker.beats()
                self.assertEqual([asker.beat() for beat in range(20)], [[]] * 20, way)
                self.assertEqual(asker.beats(), counted + 20, way)
                self.assertEqual(asker, made(way), way)

    def test_goes_runs_40_beats_then_waits_16(self):
        asker = made("goes")
        self.assertEqual([beat for beat in range(1, 100) if asker.beat() == ["stop"]], [40])
        asker = done(made("goes"), beats(40))
        self.assertEqual((asker.state(), asker.end()), ("waits", None))
        self.assertEqual([asker.beat() for beat in range(17)], [[]] * 15 + [["late"], []])
        self.assertEqual((asker.state(), asker.end(), asker.beats()), ("over", "late", 57))

    def test_rings_begins_the_beats_of_goes_anew(self):
        asker = made("goes")
        for ahead in (1, 20, 39, 39):
            done(asker, beats(ahead))
            self.assertEqual(asker.hear("rings"), ["up"])
            self.assertEqual(asker.state(), "goes")
            self.assertEqual(asker, made("goes"))
        self.assertEqual([asker.beat() for beat in range(40)], [[]] * 39 + [["stop"]])

    def test_rings_begins_nothing_anew_in_waits(self):
        for way in ("waits", "waits marked"):
            asker = done(made(way), beats(15))
            self.assertEqual(asker.hear("rings"), ["up"])
            self.assertEqual(asker.beat(), ["late"])
            self.assertEqual(asker.state(), "over")

    def test_words_begin_nothing_anew_in_took_and_ends(self):
        for way, word in (("took", "taken"), ("ends", "no"), ("took", "no"), ("ends", "taken")):
            asker = done(made(way), beats(15))
            asker.hear(word)
            asker.beat()
            self.assertEqual(asker.state(), "over", (way, word))
        for word in ("done", "no"):
            asker = done(made("other done"), beats(3))
            asker.hear(word)
            asker.beat()
            self.assertEqual((asker.state(), asker.end()), ("over", "done"))

    def test_a_mark_begins_nothing_anew(self):
        asker = done(Asker("ring"), beats(6) + [UP])
        self.assertEqual(asker.beat(), ["ask"])
        self.assertEqual([asker.beat() for beat in range(9)], [[]] * 7 + [["ask"], ["late"]])

    def test_a_new_state_counts_from_0(self):
        asker = done(Asker("ring"), beats(15) + [RINGS])
        self.assertEqual([asker.beat() for beat in range(40)], [[]] * 39 + [["stop"]])
        asker = done(Asker("ring"), beats(15) + [TAKEN] + beats(15))
        self.assertEqual(asker.state(), "took")
        asker = done(Asker("other"), beats(15) + [DONE] + beats(3))
        self.assertEqual(asker.state(), "ends")


class Lists(unittest.TestCase):
    def test_a_list_that_was_told_is_the_askers_own(self):
        for way, comes in COMES.items():
            for deed in [deed_of(word) for word in comes] + [("beat",)]:
                asker, like = made(way), made(way)
                spoil(do(asker, deed))
                do(like, deed)
                self.assertEqual(asker, like, (way, deed))
                self.assertEqual(told(asker), told(like), (way, deed))
                self.assertEqual(do(asker, deed), do(like, deed), (way, deed))

    def test_a_list_is_told_anew_each_time(self):
        asker = made("took")
        first = asker.hear("taken")
        self.assertIsNot(first, asker.hear("taken"))
        self.assertIsNot(made("over").beat(), made("over").beat())

    def test_what_is_told_later_changes_no_list(self):
        asker = Asker("ring")
        lists = [asker.beat() for beat in range(17)]
        self.assertEqual(lists, [ASKS.get(beat, []) for beat in range(1, 18)])


class Twins(unittest.TestCase):
    def test_a_twin_is_alike(self):
        for way in WAYS:
            asker = made(way)
            twin = asker.twin()
            self.assertIsNot(twin, asker)
            self.assertIsInstance(twin, Asker)
            self.assertTrue(twin == asker, way)
            self.assertFalse(twin != asker, way)
            self.assertEqual(told(twin), told(asker), way)

    def test_a_twin_goes_on_by_itself(self):
        for way, comes in COMES.items():
            for deed in [deed_of(word) for word in comes] + [("beat",)]:
                asker = made(way)
                twin = asker.twin()
                expected = do(made(way), deed)
                self.assertEqual(do(twin, deed), expected, (way, deed))
                self.assertEqual(told(asker), told(made(way)), (way, deed))
                self.assertEqual(asker, made(way), (way, deed))
                after = told(twin)
                self.assertEqual(do(asker, deed), expected, (way, deed))
                self.assertEqual(told(twin), after, (way, deed))
                self.assertEqual(asker, twin, (way, deed))


class Alike(unittest.TestCase):
    def unlike(self, first, second):
        self.assertFalse(first == second)
        self.assertFalse(second == first)
        self.assertTrue(first != second)

    def test_sort(self):
        self.unlike(Asker("ring"), Asker("other"))
        self.unlike(made("over"), made("other over"))
        self.assertEqual(Asker("ring"), Asker("ring"))

    def test_state(self):
        self.unlike(made("calls"), made("goes"))
        self.unlike(made("goes"), made("waits"))

    def test_beats_in_the_state(self):
        for way in LASTS:
            asker = made(way)
            asker.beat()
            self.unlike(asker, made(way))

    def test_end(self):
        self.unlike(made("over"), made("over of took"))
        self.unlike(made("over of ends"), made("over of took"))
        self.unlike(made("other done"), made("other no"))

    def test_mark(self):
        self.unlike(made("calls"), made("marked"))
        self.unlike(made("took"), made("took marked"))
        self.unlike(made("waits"), made("waits marked"))
        self.assertEqual(made("marked"), made("marked"))

    def test_beats_in_all_are_none_of_it(self):
        late = done(Asker("ring"), beats(9) + [TAKEN])
        self.assertEqual(late, made("took"))
        self.assertNotEqual(late.beats(), made("took").beats())
        self.assertEqual(made("over"), made("over of waits"))

    def test_things_of_other_kinds(self):
        for way in WAYS:
            asker = made(way)
            for thing in STRANGE + [Asked("ring"), Asked("other"), Asker, told(asker), way]:
                self.assertIs(asker == thing, False)
                self.assertIs(asker != thing, True)


class Refusals(unittest.TestCase):
    def test_no_sort(self):
        for thing in STRANGE + ["no", "taken", "done", "rings"]:
            with self.assertRaises(NoSort) as caught:
                Asker(thing)
            self.assertIs(caught.exception.thing, thing)
            with self.assertRaises(NoSort):
                Asker(sort=thing)

    def test_no_word(self):
        others = {"ring": ["done", "ring", "other"], "other": ["rings", "taken", "ring", "other"]}
        for way, (sort, deeds) in WAYS.items():
            for thing in STRANGE + others[sort]:
                asker = made(way)
                with self.assertRaises(NoWord) as caught:
                    asker.hear(thing)
                self.assertIs(caught.exception.thing, thing)
                self.assertEqual(told(asker), told(made(way)), way)
                self.assertEqual(asker, made(way), way)


class Asking(unittest.TestCase):
    def test_what_is_asked_changes_nothing(self):
        for way in WAYS:
            asker = made(way)
            for again in range(3):
                told(asker)
                asker.twin()
                self.assertEqual(asker, made(way))
            self.assertEqual(told(asker), told(made(way)))

    def test_an_end_never_turns_and_what_is_over_is_silent(self):
        chance = random.Random(6)
        for run in range(600):
            asker = Asker(chance.choice(SORTS))
            deeds = [("hear", word) for word in ANSWERS[asker.manner()]] + [UP] + beats(chance.choice((3, 30, 150)))
            for step in range(150):
                end, over = asker.end(), asker.state() == "over"
                what = do(asker, chance.choice(deeds))
                if end is not None:
                    self.assertEqual(asker.end(), end)
                if over:
                    self.assertEqual((what, asker.state()), ([], "over"))

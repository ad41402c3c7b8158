"""Letters: which things are letters, and how they are led by dicts of names."""

import unittest

from ringingcalls.errors import NoNames
from ringingcalls.letters import KINDS, call_named, is_letter, led, look_at_names, talk_named
from tests.helper import (
    ANSWERS, ASKS, CALL, EIGHT, LETTERS, ODD, TALK, Agreeing, Contrary, as_lists, places, put, told, twice, without,
)

RING, RELAYED = ASKS[0], ASKS[1]
# ann, bob, hub and den go in a ring, zoe goes elsewhere.
TURNED = {"ann": "bob", "bob": "hub", "hub": "den", "den": "ann", "zoe": "yve"}
BACK = {worth: key for key, worth in TURNED.items()}


def ask(kind, what):
    """An ask of that kind."""
    return ("ask", "ann", "hub", 0, kind, what)


def answer(*what):
    """An answer of that word."""
    return ("answer", "hub", "ann", 0, what)


class Look(unittest.TestCase):
    def yes(self, *things):
        for thing in things:
            self.assertIs(is_letter(thing), True, thing)

    def no(self, *things):
        for thing in things:
            self.assertIs(is_letter(thing), False, thing)


class Letters(Look):
    def test_kinds(self):
        self.assertEqual(KINDS, ("ring", "stop", "bye", "again", "here"))
        self.assertIsInstance(KINDS, tuple)

    def test_every_form(self):
        self.yes(*LETTERS)
        for letter in LETTERS:
            self.assertIs(is_letter(thing=letter), True)

    def test_anything_else(self):
        self.no(*ODD)
        self.no(0, "ann", (), CALL, TALK, EIGHT, ("ask",), ("ask", "ann"), ("ask", "ann", "hub"), ("done",))
        self.assertIs(is_letter(thing=None), False)

    def test_one_thing_otherwise_at_each_place(self):
        for letter in LETTERS:
            for at in places(letter):
                self.no(*[put(letter, at, odd) for odd in ODD])

    def test_one_thing_left_out(self):
        for letter in LETTERS:
            for at in places(letter):
                # A path is one without any of its names, too.
                if not self.is_in_path(letter, at):
                    self.no(without(letter, at))

    def is_in_path(self, letter, at):
        """Whether the place is a name's in a path or way."""
        outer = told(letter, at[:-1])
        return outer in (("hub", "inn"), ("den", "bob"), ("hub", "ann"), ("hub", "den"), ("hub",))

    def test_one_thing_twice(self):
        for letter in LETTERS:
            self.no(*[twice(letter, at) for at in places(letter)])

    def test_one_thing_more(self):
        for letter in LETTERS:
            for more in (0, "ann", (), None):
                self.no(letter + (more,))
        for letter in ASKS:
            for more in (0, "ann", (), None):
                self.no(letter[:5] + (letter[5] + (more,),))
        for letter in ANSWERS:
            for more in (0, "ann", (), None):
                self.no(letter[:4] + (letter[4] + (more,),))

    def test_lists_in_the_stead_of_tuples(self):
        for letter in LETTERS:
            self.no(*as_lists(letter))

    def test_the_words_of_others(self):
        for letter in LETTERS:
            for word in ("ask", "answer", "sure", "held", "asks", "Ask", "done", "hold", "tell", Agreeing(), Contrary()):
                if word is not letter[0] and not (isinstance(word, str) and word == letter[0]):
                    self.no((word,) + letter[1:])

    def test_from_and_to(self):
        for letter in LETTERS:
            self.no(letter[:1] + ("ann", "ann") + letter[3:], letter[:1] + ("hub", "hub") + letter[3:])
            self.yes(letter[:1] + ("a", "abcdefgh") + letter[3:], letter[:1] + ("abcdefgh", "a") + letter[3:])
            self.no(letter[:1] + ("a", "abcdefghi") + letter[3:], letter[:1] + ("abcdefghi", "a") + letter[3:])
            self.no(letter[:1] + (0, "hub") + letter[3:], letter[:1] + ("ann", 0) + letter[3:])

    def test_numbers_of_askings(self):
        for letter in LETTERS:
            if letter[0] != "held":
                self.yes(put(letter, (3,), 0), put(letter, (3,), 10 ** 29))
                self.no(put(letter, (3,), -1), put(letter, (3,), True), put(letter, (3,), "0"))


class Asks(Look):
    def test_kinds_with_what_belongs_to_others(self):
        for letter in ASKS:
            for kind in KINDS + ("rings", "held", "Ring", ["ring"], ("ring",), Agreeing(), Contrary()):
                if kind is not letter[4]:
                    self.no(put(letter, (4,), kind))

    def test_hops_are_from_0_to_9(self):
        self.yes(*[ask("ring", (CALL, "zoe", hops, (), "hello")) for hops in range(10)])
        self.no(*[ask("ring", (CALL, "zoe", hops, (), "hello")) for hops in (-1, 10, 99, True, False, "0")])

    def test_a_rings_path(self):
        self.yes(ask("ring", (CALL, "zoe", 9, EIGHT, "hello")))
        self.no(ask("ring", (CALL, "zoe", 9, EIGHT + ("i",), "hello")))
        self.no(ask("ring", (CALL, "zoe", 9, ("hub", "hub"), "hello")))

    def test_a_rings_call(self):
        self.no(ask("ring", (TALK, "zoe", 9, (), "hello")), ask("ring", (("ann", -1), "zoe", 9, (), "hello")))

    def test_a_rings_names(self):
        self.no(ask("ring", (CALL, "abcdefghi", 9, (), "hello")), ask("ring", (CALL, "zoe", 9, (), "abcdefghi")))
        self.yes(ask("ring", (CALL, "abcdefgh", 9, (), "a")), ask("ring", (CALL, "zoe", 9, (), "zoe")))

    def test_stops_numbers_are_from_0_on(self):
        self.yes(ask("stop", (0,)), ask("stop", (10 ** 29,)))
        self.no(ask("stop", (-1,)), ask("stop", (True,)), ask("stop", 0), ask("stop", ()), ask("stop", (0, 0)))

    def test_byes_numbers_are_from_1_on(self):
        self.yes(ask("bye", (TALK, 1, ())), ask("bye", (TALK, 2, EIGHT)))
        self.no(ask("bye", (TALK, 0, ())), ask("bye", (TALK, -1, ())), ask("bye", (TALK, True, ())))

    def test_agains_numbers_are_from_1_on(self):
        self.yes(ask("again", (TALK, 1, (), "warm")), ask("again", (TALK, 2, EIGHT, "warm")))
        self.no(ask("again", (TALK, 0, (), "warm")), ask("again", (TALK, -1, (), "warm")))
        self.no(ask("again", (TALK, True, (), "warm")), ask("again", (TALK, 1, (), "Warm")))

    def test_talks_and_ways(self):
        same = (("ann", 0), "ann", 0)
        self.no(ask("bye", (same, 1, ())), ask("again", (same, 1, (), "warm")))
        self.no(ask("bye", (CALL, 1, ())), ask("again", (CALL, 1, (), "warm")))
        self.no(ask("bye", (TALK, 1, EIGHT + ("i",))), ask("again", (TALK, 1, ("hub", "hub"), "warm")))

    def test_heres_weights_are_from_0_to_9(self):
        self.yes(*[ask("here", ("zoe", weight, 10)) for weight in range(10)])
        self.no(*[ask("here", ("zoe", weight, 10)) for weight in (-1, 10, 999, True, False)])

    def test_heres_beats_are_from_0_to_999(self):
        self.yes(*[ask("here", ("zoe", 1, beats)) for beats in (0, 1, 9, 10, 998, 999)])
        self.no(*[ask("here", ("zoe", 1, beats)) for beats in (-1, 1000, True, False)])


class Answers(Look):
    def test_words_with_what_belongs_to_others(self):
        for letter in ANSWERS:
            for word in ("rings", "taken", "no", "done", "late", "ring", "Done", ["done"], Agreeing(), Contrary()):
                if word is not letter[4][0]:
                    self.no(put(letter, (4, 0), word))

    def test_a_word_alone(self):
        self.no(*[answer(word) for word in ("rings", "taken", "no")])
        self.no(("answer", "hub", "ann", 0, "done"), ("answer", "hub", "ann", 0, ()))

    def test_takens_numbers_are_from_0_on(self):
        self.yes(answer("taken", "bob", 0, ()), answer("taken", "bob", 1, EIGHT))
        self.no(answer("taken", "bob", -1, ()), answer("taken", "bob", False, ()))

    def test_ranks(self):
        self.yes(answer("no", 300), answer("no", 699))
        self.no(answer("no", 299), answer("no", 700), answer("no", "480"), answer("no", 0))

    def test_paths(self):
        self.yes(answer("rings", "bob", EIGHT))
        self.no(answer("rings", "bob", EIGHT + ("i",)), answer("rings", "bob", ("hub", "hub")))
        self.no(answer("taken", "bob", 0, EIGHT + ("i",)), answer("taken", "bob", 0, ("hub", "hub")))

    def test_held_ones(self):
        self.yes(("held", "ann", "hub", TALK, EIGHT))
        self.no(("held", "ann", "hub", TALK, EIGHT + ("i",)), ("held", "ann", "hub", TALK, ("hub", "hub")))
        self.no(("held", "ann", "hub", CALL, ()), ("held", "ann", "hub", (("ann", 0), "ann", 0), ()))
        self.no(("held", "ann", "hub", 0, TALK, ()))


class Names(unittest.TestCase):
    def test_good_dicts(self):
        for names in ({}, {"ann": "bob"}, {"ann": "ann"}, {"ann": "bob", "bob": "ann"}, TURNED, {"a": "abcdefgh"}):
            self.assertIsNone(look_at_names(names))
            self.assertIsNone(look_at_names(thing=names))

    def bad(self):
        """Things that are no dicts of names, or lead two to one."""
        odd = [thing for thing in ODD if not (isinstance(thing, dict))]
        keys = [thing for thing in ODD if not isinstance(thing, (list, dict, set, Contrary))]
        hashed = [thing for thing in keys if not (isinstance(thing, tuple) and self.has_unhashed(thing))]
        made = [{thing: "bob"} for thing in hashed] + [{"ann": thing} for thing in ODD]
        made += [{"ann": "bob", thing: "cat"} for thing in hashed] + [{"ann": "bob", "bob": thing} for thing in ODD]
        two = [{"ann": "cat", "bob": "cat"}, {"ann": "bob", "bob": "bob"}, {"a": "x", "b": "y", "c": "x"}]
        pairs = [[("ann", "bob")], (("ann", "bob"),), "ann", ("ann", "bob"), 0, 1]
        return odd + made + two + pairs + [{"ann": 0}, {0: "ann"}, {"ann": ("bob",)}]

    def has_unhashed(self, thing):
        return any(isinstance(inner, (list, Contrary)) for inner in thing)

    def refused(self, thing, function, *things):
        with self.assertRaises(NoNames) as caught:
            function(*things)
        self.assertIs(caught.exception.thing, thing)

    def test_bad_ones_are_refused_with_what_was_handed_in(self):
        for names in self.bad():
            self.refused(names, look_at_names, names)
            self.refused(names, led, RING, names)
            self.refused(names, call_named, CALL, names)
            self.refused(names, talk_named, TALK, names)

    def test_bad_ones_are_refused_of_every_letter(self):
        for letter in LETTERS:
            self.refused(None, led, letter, None)

    def test_what_is_handed_in_stays(self):
        names = dict(TURNED)
        look_at_names(names)
        for letter in LETTERS:
            led(letter, names)
        call_named(CALL, names)
        talk_named(TALK, names)
        self.assertEqual(list(names.items()), list(TURNED.items()))
        two = {"ann": "cat", "bob": "cat"}
        self.refused(two, look_at_names, two)
        self.assertEqual(two, {"ann": "cat", "bob": "cat"})


class Led(unittest.TestCase):
    def test_each_form(self):
        talk = (("bob", 3), "hub", 2)
        wanted = [
            ("ask", "bob", "den", 0, "ring", (("bob", 0), "yve", 9, (), "hello")),
            ("ask", "den", "ann", 7, "ring", (("cat", 12), "yve", 0, ("den", "inn"), "hello")),
            ("ask", "bob", "den", 1, "stop", (0,)),
            ("ask", "bob", "den", 2, "bye", (talk, 1, ())),
            ("ask", "bob", "den", 2, "bye", (talk, 4, ("ann", "hub"))),
            ("ask", "hub", "den", 3, "again", (talk, 1, (), "warm")),
            ("ask", "hub", "den", 3, "again", (talk, 9, ("den", "bob"), "warm")),
            ("ask", "hub", "den", 4, "here", ("yve", 9, 999)),
            ("ask", "hub", "den", 5, "here", ("yve", 0, 0)),
            ("answer", "den", "bob", 0, ("rings", "hub", ())),
            ("answer", "den", "bob", 0, ("rings", "hub", ("den", "ann"))),
            ("answer", "den", "bob", 1, ("taken", "hub", 0, ())),
            ("answer", "den", "bob", 1, ("taken", "hub", 5, ("den",))),
            ("answer", "den", "bob", 2, ("no", 487)),
            ("answer", "den", "bob", 3, ("done",)),
            ("sure", "bob", "den", 0),
            ("held", "bob", "den", talk, ()),
            ("held", "bob", "den", talk, ("ann", "hub")),
        ]
        self.assertEqual([led(letter, TURNED) for letter in LETTERS], wanted)
        self.assertEqual([led(letter=letter, names=TURNED) for letter in LETTERS], wanted)

    def test_it_is_a_letter_of_tuples(self):
        for letter in LETTERS:
            self.assertIs(is_letter(led(letter, TURNED)), True)

    def test_no_names_and_foreign_names(self):
        for letter in LETTERS:
            self.assertEqual(led(letter, {}), letter)
            self.assertEqual(led(letter, {"xen": "yps", "yps": "xen"}), letter)
            self.assertEqual(led(letter, {"ann": "ann", "hub": "hub"}), letter)

    def test_some_names(self):
        self.assertEqual(led(RING, {"ann": "xen"}), ("ask", "xen", "hub", 0, "ring", (("xen", 0), "zoe", 9, (), "hello")))
        self.assertEqual(led(RING, {"zoe": "xen"}), put(RING, (5, 1), "xen"))
        self.assertEqual(led(RELAYED, {"inn": "xen"}), put(RELAYED, (5, 3), ("hub", "xen")))

    def test_names_exchanged(self):
        names = {"ann": "hub", "hub": "ann"}
        self.assertEqual(led(("sure", "ann", "hub", 4), names), ("sure", "hub", "ann", 4))
        self.assertEqual(led(RING, names), ("ask", "hub", "ann", 0, "ring", (("hub", 0), "zoe", 9, (), "hello")))

    def test_texts_stay_and_persons_do_not(self):
        letter = ("ask", "ann", "hub", 0, "ring", (CALL, "ann", 9, (), "ann"))
        self.assertEqual(led(letter, {"ann": "xen"}), ("ask", "xen", "hub", 0, "ring", (("xen", 0), "xen", 9, (), "ann")))
        letter = ("ask", "ann", "hub", 0, "here", ("ann", 1, 2))
        self.assertEqual(led(letter, {"ann": "xen"}), ("ask", "xen", "hub", 0, "here", ("xen", 1, 2)))
        letter = ("ask", "ann", "hub", 0, "again", (TALK, 1, (), "bob"))
        self.assertEqual(led(letter, {"bob": "xen"}), put(letter, (5, 0), (("ann", 3), "xen", 2)))

    def test_words_stay(self):
        words = ["ask", "answer", "sure", "held", "ring", "stop", "bye", "again", "here", "rings", "taken", "no", "done"]
        names = {word: "x" + word for word in words}
        for letter in LETTERS:
            self.assertEqual(led(letter, names), letter)

    def test_names_that_are_words_are_led(self):
        letter = ("answer", "no", "done", 0, ("rings", "rings", ("no", "answer")))
        names = {"no": "x", "done": "y", "rings": "z", "answer": "w"}
        self.assertEqual(led(letter, names), ("answer", "x", "y", 0, ("rings", "z", ("x", "w"))))

    def test_led_back_it_is_as_ahead(self):
        for letter in LETTERS:
            self.assertEqual(led(led(letter, TURNED), BACK), letter)

    def test_calls(self):
        self.assertEqual(call_named(("ann", 4), TURNED), ("bob", 4))
        self.assertEqual(call_named(call=("cat", 4), names=TURNED), ("cat", 4))
        self.assertEqual(call_named(("ann", 4), {}), ("ann", 4))
        self.assertEqual(call_named(call_named(("ann", 4), TURNED), BACK), ("ann", 4))

    def test_talks(self):
        self.assertEqual(talk_named(TALK, TURNED), (("bob", 3), "hub", 2))
        self.assertEqual(talk_named(talk=TALK, names={"ann": "bob", "bob": "ann"}), (("bob", 3), "ann", 2))
        self.assertEqual(talk_named(TALK, {"bob": "xen"}), (("ann", 3), "xen", 2))
        self.assertEqual(talk_named(TALK, {}), TALK)
        self.assertEqual(talk_named(talk_named(TALK, TURNED), BACK), TALK)

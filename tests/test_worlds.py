"""Worlds: what makes one, each deed and what it tells, calm rounds, playing, what is told, and which are alike."""

import unittest

from ringingcalls.devices import Device
from ringingcalls.errors import (
    Busy, NoCall, NoDeed, NoLetter, NoName, NoNumber, NoRank, NoRing, NoRule, NoTalk, NoTarget, NoWorld, TooMany,
)
from ringingcalls.houses import House
from ringingcalls.talks import Talk
from ringingcalls.worlds import RULES, World, is_deed
from tests.helper import CALL, ODD, answer, ask, held, ring, shown, spoil

TALK = (CALL, "bob", 0)
BOB = ("device", "bob")
CALLED = ("call", "ann", "zoe", "hub", "hello")
PLACED = ("place", "hub", "zoe", BOB, 5, 900)
TAKEN = ("take", "bob", CALL)
BEAT = ("beat",)
DEEDS = [
    CALLED, ("give", "ann", 0), TAKEN, ("refuse", "bob", CALL, 486), ("end", "ann", TALK), ("change", "ann", TALK, "warm"),
    ("here", "bob", "zoe", "hub", 5, 60), PLACED, ("carry", 0), ("lose", 0), ("double", 0), BEAT, ("calm", 5),
]


def world(*deeds, without=(), stays=True):
    """A world of three devices and a house, behind the deeds."""
    made = World(["ann", "bob", "cat"], [("hub", stays)], without=without)
    for deed in deeds:
        made.do(deed)
    return made


def ringing(*deeds, **more):
    """Such a world in which ann's call rings at bob."""
    return world(PLACED, CALLED, ("calm", 1), *deeds, **more)


def talking(*deeds, **more):
    """Such a world in which ann and bob talk."""
    return ringing(TAKEN, ("calm", 1), *deeds, **more)


class Case(unittest.TestCase):
    def refused(self, error, made, deed, thing):
        """A deed is refused, with its thing, and changes nothing."""
        like = made.twin()
        with self.assertRaises(error) as caught:
            made.do(deed)
        self.assertIs(caught.exception.thing, thing)
        self.assertEqual(made, like)

    def last(self, made):
        """The letter under way with the greatest number."""
        return made.letters()[-1][1]


class Made(Case):
    def no_world(self, devices, houses, thing, without=()):
        """These make none, and the thing is told."""
        with self.assertRaises(NoWorld) as caught:
            World(devices, houses, without=without)
        self.assertIs(caught.exception.thing, thing)

    def test_of_devices_and_houses(self):
        made = World(["cat", "ann"], [("inn", False), ("hub", True)])
        self.assertEqual((made.devices(), made.houses()), (["ann", "cat"], [("hub", True), ("inn", False)]))
        self.assertEqual((made.letters(), made.talks(), made.hanging(), made.beats(), made.kept()), ([], [], [], 0, 0))
        self.assertIs(made.is_settled(), True)
        self.assertEqual(made, World(houses=[("hub", True), ("inn", False)], devices=["ann", "cat"]))

    def test_of_one_alone(self):
        self.assertEqual(World(["ann"], []).devices(), ["ann"])
        self.assertEqual(World([], [("hub", True)]).houses(), [("hub", True)])

    def test_no_devices(self):
        for thing in ODD + ["ann", ("ann", "bob"), {"ann": 1}]:
            if not isinstance(thing, list):
                self.no_world(thing, None, thing)
        for name in ODD + [0]:
            devices = ["ann", name]
            self.no_world(devices, None, devices)
        devices = ["ann", "bob", "ann"]
        self.no_world(devices, None, devices)
        self.no_world(devices, [("ann", True)], devices)

    def test_no_houses(self):
        for thing in ODD + ["hub", (("hub", True),), {"hub": True}]:
            if not isinstance(thing, list):
                self.no_world(["ann"], thing, thing)
        for row in ODD + [("hub",), ("hub", 1), ("hub", None), ("hub", True, True), ["hub", True], ("Hub", True), "hub"]:
            houses = [("inn", True), row]
            self.no_world(["ann"], houses, houses)

    def test_names_alike_or_none_at_all(self):
        for devices, houses in (
            (["ann"], [("hub", True), ("hub", False)]), (["ann"], [("hub", True), ("ann", True)]), ([], []),
        ):
            self.no_world(devices, houses, houses)
            self.no_world(devices, houses, houses, without=None)

    def test_rules(self):
        self.assertEqual(RULES, ("hold", "extra", "given", "refresh", "late", "glare", "number"))
        for rules in [(), RULES, RULES[::-1]] + [(rule,) for rule in RULES]:
            self.assertEqual(World(["ann"], [], without=rules).devices(), ["ann"])
        for thing in ODD + ["hold", ["hold"], ("hold", "hold"), ("Hold",), ("hold", None), (0,), {"hold": 1}, (("hold",),)]:
            with self.assertRaises(NoRule) as caught:
                World(["ann"], [("hub", True)], without=thing)
            self.assertIs(caught.exception.thing, thing)

    def test_what_was_handed_in_is_not_kept(self):
        devices, houses = ["ann"], [("hub", True)]
        made = World(devices, houses)
        spoil(devices)
        spoil(houses)
        self.assertEqual(made, World(["ann"], [("hub", True)]))


class Deeds(Case):
    def test_a_call_to_its_end_with_told_numbers(self):
        made = world()
        for deed, told, letters in (
            (PLACED, [], []),
            (CALLED, [0], [ring("ann", "hub", 0)]),
            (("carry", 0), [1, 2], [answer("hub", "ann", 0, "rings", "hub", ()), ring("hub", "bob", 0, hops=8, path=("hub",))]),
            (("carry", 2), [3], [answer("bob", "hub", 0, "rings", "bob", ("hub",))]),
            (("carry", 1), [], []),
            (("lose", 3), [], []),
            (TAKEN, [4], [answer("bob", "hub", 0, "taken", "bob", 0, ("hub",))]),
            (("double", 4), [5], [answer("bob", "hub", 0, "taken", "bob", 0, ("hub",))]),
            (("carry", 5), [6], [answer("hub", "ann", 0, "taken", "bob", 0, ("hub",))]),
            (("carry", 6), [7], [held("ann", "hub", TALK, "bob")]),
            (("carry", 7), [8], [held("hub", "bob", TALK)]),
            (("carry", 4), [9], [answer("hub", "ann", 0, "taken", "bob", 0, ("hub",))]),
            (("carry", 8), [], []),
            (("lose", 9), [], []),
            (("change", "ann", TALK, "warm"), [10], [ask("ann", "hub", 1, "again", TALK, 1, ("bob",), "warm")]),
            (("carry", 10), [11], [ask("hub", "bob", 1, "again", TALK, 1, (), "warm")]),
            (("carry", 11), [12], [answer("bob", "hub", 1, "done")]),
            (("carry", 12), [13], [answer("hub", "ann", 1, "done")]),
            (("carry", 13), [], []),
            (("end", "bob", TALK), [14], [ask("bob", "hub", 0, "bye", TALK, 1, ("ann",))]),
            (BEAT, [15], [ask("bob", "hub", 0, "bye", TALK, 1, ("ann",))]),
        ):
            self.assertEqual(made.do(deed), told, deed)
            self.assertEqual([letter for number, letter in made.letters() if number in told], letters, deed)
        self.assertEqual(made.beats(), 1)
        self.assertEqual([number for number, letter in made.letters()], [14, 15])

    def test_give_refuse_and_here(self):
        made = ringing()
        self.assertEqual(made.do(("give", "ann", 0)), [5])
        self.assertEqual(self.last(made), ask("ann", "hub", 1, "stop", 0))
        self.assertEqual(made.do(("refuse", "bob", CALL, 486)), [6])
        self.assertEqual(self.last(made), answer("bob", "hub", 0, "no", 486))
        self.assertEqual(made.do(("here", "cat", "zoe", "hub", 7, 60)), [7])
        self.assertEqual(self.last(made), ask("cat", "hub", 0, "here", "zoe", 7, 60))
        made.do(("carry", 7))
        self.assertEqual(made.house("hub").places().groups("zoe"), ((("device", "cat"),), (BOB,)))

    def test_a_beat_goes_by_names_devices_first(self):
        made = World(["dan", "ann", "zoe"], [("eve", True), ("bob", False)])
        for name in ("zoe", "dan", "ann"):
            made.do(("call", name, "pia", "eve", "hello"))
        made.do(("here", "ann", "pia", "bob", 1, 2))
        for house in ("eve", "bob"):
            made.do(("place", house, "pia", ("device", "nobody"), 1, 999))
        made.play([("carry", 0), ("call", "zoe", "pia", "bob", "warm"), ("carry", 6)])
        told = made.do(BEAT)
        senders = [letter[1] for number, letter in made.letters() if number in told]
        self.assertEqual(senders, ["ann", "ann", "dan", "zoe", "zoe", "bob", "eve"])
        self.assertEqual(made.beats(), 1)

    def test_a_letter_to_nobody_is_lost(self):
        made = world(("place", "hub", "zoe", ("device", "dan"), 5, 900), CALLED, ("carry", 0))
        self.assertEqual(self.last(made), ring("hub", "dan", 0, hops=8, path=("hub",)))
        like = [row for row in made.letters() if row[0] != 2]
        self.assertEqual(made.do(("carry", 2)), [])
        self.assertEqual(made.letters(), like)

    def test_copies_go_by_themselves(self):
        made = world(CALLED)
        self.assertEqual([made.do(("double", 0)), made.do(("double", 1)), made.do(("lose", 0))], [[1], [2], []])
        self.assertEqual(made.letters(), [(number, ring("ann", "hub", 0)) for number in (1, 2)])
        made.do(("lose", 2))
        made.do(("lose", 1))
        self.assertEqual(made.do(BEAT), [3])

    def test_letters_in_any_order(self):
        made = world(CALLED, ("call", "bob", "zoe", "hub", "warm"))
        self.assertEqual(made.do(("carry", 1)), [2])
        self.assertEqual(made.do(("carry", 2)), [3])
        self.assertEqual([number for number, letter in made.letters()], [0, 3])

    def test_deeds_by_name(self):
        made = world()
        self.assertEqual(made.do(deed=CALLED), [0])
        self.assertEqual(made.play(deeds=[BEAT]), [[1]])
        self.assertEqual(made.device(name="ann").name(), "ann")
        self.assertEqual(made.house(name="hub").name(), "hub")
        self.assertTrue(is_deed(thing=BEAT))


class Calm(Case):
    def test_rounds(self):
        made = world(PLACED, CALLED)
        self.assertEqual(made.do(("calm", 1)), [1, 2, 3, 4])
        self.assertEqual((made.letters(), made.beats()), ([], 1))
        self.assertEqual(made.device("bob").rings(), [CALL])
        self.assertEqual(made.do(("calm", 28)), [])
        # bob's thirtieth beat lays his no; it is carried in the round that follows.
        self.assertEqual(made.do(("calm", 1)), [5])
        self.assertEqual(made.letters(), [(5, answer("bob", "hub", 0, "no", 480))])
        self.assertEqual((made.beats(), made.do(("calm", 1))), (30, [6, 7, 8]))
        self.assertEqual(made.do(("calm", 300)), [])
        self.assertTrue(made.is_settled())

    def test_like_carrying_in_order_and_beats(self):
        made = talking(("change", "ann", TALK, "warm"), ("change", "bob", TALK, "cool"), ("call", "cat", "zoe", "hub", "dry"))
        other = made.twin()
        told = []
        for turn in range(40):
            while other.letters():
                told += other.do(("carry", other.letters()[0][0]))
            told += other.do(BEAT)
        self.assertEqual(made.do(("calm", 40)), told)
        self.assertEqual(made, other)

    def test_no_more_than_2000(self):
        for many, fits in ((1999, True), (2000, True), (2001, False)):
            made = world(("place", "hub", "zoe", ("device", "dan"), 5, 900), CALLED, ("carry", 0), ("lose", 1))
            for copy in range(many - 1):
                made.do(("double", 2))
            self.assertEqual(len(made.letters()), many)
            if fits:
                # Only the beat lays letters, ann's and the house's own asks anew.
                self.assertEqual(len(made.do(("calm", 1))), 2)
            else:
                like = made.twin()
                with self.assertRaises(TooMany) as caught:
                    made.do(("calm", 1))
                self.assertEqual(caught.exception.many, 2001)
                self.assertEqual(made, like)

    def test_too_many_in_a_later_round_leaves_all_as_it_was(self):
        made = world(PLACED, CALLED, ("calm", 29))
        for copy in range(1500):
            made.do(("call", "cat", "zoe", "hub", "hello"))
            made.do(("lose", made.letters()[-1][0]))
        like = made.twin()
        with self.assertRaises(TooMany):
            made.do(("calm", 5))
        self.assertEqual(made, like)
        self.assertEqual(made.beats(), 29)

    def test_rounds_by_their_form(self):
        for rounds in ODD + [0, 301, "5", (5,)]:
            deed = ("calm", rounds)
            self.assertFalse(is_deed(deed))
            self.refused(NoDeed, world(), deed, deed)
        self.assertEqual(world().do(("calm", 300)), [])


class Played(Case):
    def test_what_they_tell(self):
        made, other = world(), world()
        deeds = [PLACED, CALLED, ("carry", 0), BEAT, ("lose", 1)]
        self.assertEqual(made.play(deeds), [other.do(deed) for deed in deeds])
        self.assertEqual(made, other)
        self.assertEqual(made.play([]), [])
        self.assertEqual(made, other)

    def test_refused_all_is_as_ahead_of_the_first(self):
        for bad, error in (
            (("carry", 9), NoLetter), (("give", "ann", 7), NoCall), (("take", "bob", ("cat", 0)), NoRing), (("end", "ann", TALK), NoTalk),
            (("carry",), NoDeed), (None, NoDeed), (("call", "dan", "zoe", "hub", "hello"), NoDeed),
            (("call", "ann", "Zoe", "hub", "hello"), NoName), (("place", "hub", "zoe", BOB, 5, 1000), NoNumber),
        ):
            for ahead in ([], [PLACED, CALLED, ("carry", 0), BEAT, ("calm", 2)]):
                made = world(CALLED)
                like = made.twin()
                with self.assertRaises(error):
                    made.play(ahead + [bad, ("carry", 8), BEAT])
                self.assertEqual(made, like)

    def test_the_first_one_is_refused(self):
        with self.assertRaises(NoLetter) as caught:
            world().play([BEAT, ("carry", 5), ("carry", 6), None])
        self.assertEqual(caught.exception.thing, 5)

    def test_what_is_no_list(self):
        for thing in ODD + [0, "beat", (BEAT,), {"beat": 1}]:
            if not isinstance(thing, list):
                with self.assertRaises(NoDeed) as caught:
                    world().play(thing)
                self.assertIs(caught.exception.thing, thing)

    def test_too_many(self):
        made = world(("place", "hub", "zoe", ("device", "dan"), 5, 900), CALLED, ("carry", 0), ("lose", 1))
        like = made.twin()
        with self.assertRaises(TooMany):
            made.play([("double", 2)] * 2000 + [("calm", 1)])
        self.assertEqual(made, like)


class Refused(Case):
    def test_is_deed(self):
        for deed in DEEDS:
            self.assertIs(is_deed(deed), True, deed)
            self.assertIs(is_deed(deed + (0,)), False, deed)
            self.assertIs(is_deed(deed[:-1]), False, deed)
            self.assertIs(is_deed(list(deed)), False, deed)
            self.assertIs(is_deed((deed[0].upper(),) + deed[1:]), False, deed)
            if deed[0] != "calm":
                for thing in ODD:
                    # Only its word and how many things it has are its form.
                    self.assertIs(is_deed(deed[:1] + (thing,) * (len(deed) - 1)), True, deed)
        for thing in ODD + [0, "beat", ("bea",), (b"beat",), (BEAT,), ("calm", 0), ("calm", 301), ("calm", True)]:
            self.assertIs(is_deed(thing), False)
        for rounds in (1, 2, 299, 300):
            self.assertIs(is_deed(("calm", rounds)), True)

    def test_no_deed_by_its_form(self):
        for thing in ODD + [0, "beat", ("beat", 0), ("carry",), ["beat"], ("call", "ann", "zoe", "hub")]:
            self.refused(NoDeed, world(), thing, thing)

    def test_devices_and_houses_of_this_world(self):
        for name in ODD + [0, "dan", "hub", "zoe"]:
            for deed in (
                ("call", name, "Zoe", "hub", "hello"), ("give", name, 0), ("take", name, None), ("refuse", name, None, 0),
                ("end", name, None), ("change", name, None, None), ("here", name, "zoe", "hub", 5, 60),
            ):
                self.refused(NoDeed, world(), deed, deed)
        for name in ODD + [0, "dan", "ann", "zoe"]:
            for deed in (
                ("place", name, None, None, None, None), ("call", "ann", None, name, None), ("here", "ann", None, name, 10, -1),
            ):
                self.refused(NoDeed, world(), deed, deed)

    def test_what_devices_refuse(self):
        made = talking(("call", "cat", "zoe", "hub", "warm"), ("calm", 1))
        for deed, error, thing in (
            (("call", "ann", "Zoe", "hub", "hello"), NoName, "Zoe"), (("call", "ann", "zoe", "hub", ""), NoName, ""),
            (("give", "ann", True), NoCall, True), (("give", "ann", 1), NoCall, 1), (TAKEN, NoRing, CALL),
            (("refuse", "bob", CALL, 486), NoRing, CALL), (("refuse", "bob", ("cat", 0), 700), NoRank, 700),
            (("end", "ann", CALL), NoTalk, CALL), (("change", "cat", TALK, "warm"), NoTalk, TALK),
            (("change", "ann", TALK, "Warm"), NoName, "Warm"), (("here", "ann", "Zoe", "hub", 10, 1000), NoName, "Zoe"),
            (("here", "ann", "zoe", "hub", 10, 1000), NoNumber, 10), (("here", "ann", "zoe", "hub", 9, 1000), NoNumber, 1000),
        ):
            self.refused(error, made, deed, thing)
        made.do(("change", "ann", TALK, "warm"))
        like = made.twin()
        with self.assertRaises(Busy):
            made.do(("change", "ann", TALK, "cool"))
        self.assertEqual(made, like)

    def test_what_places_refuse(self):
        made = world(*[("place", "hub", "zoe", ("device", name), 5, 9) for name in "abcdefgh"])
        for deed, error, thing in (
            (("place", "hub", "Zoe", BOB, 5, 9), NoName, "Zoe"), (("place", "hub", "zoe", "bob", 5, 9), NoTarget, "bob"),
            (("place", "hub", "zoe", BOB, True, 9), NoNumber, True), (("place", "hub", "zoe", BOB, 5, 1000), NoNumber, 1000),
        ):
            self.refused(error, made, deed, thing)
        like = made.twin()
        with self.assertRaises(TooMany) as caught:
            made.do(("place", "hub", "zoe", BOB, 5, 9))
        self.assertEqual(caught.exception.many, 9)
        self.assertEqual(made, like)

    def test_no_letter(self):
        made = world(CALLED, CALLED, ("lose", 0))
        for thing in ODD + [0, 2, "1", (1,), ring("ann", "hub", 0)]:
            for word in ("carry", "lose", "double"):
                self.refused(NoLetter, made, (word, thing), thing)
        # Number 1 is there, but True is none.
        self.assertEqual(made.do(("carry", 1)), [2])

    def test_no_name(self):
        for thing in ODD + [0, "dan", "hub", "zoe"]:
            with self.assertRaises(NoName) as caught:
                world().device(thing)
            self.assertIs(caught.exception.thing, thing)
        for thing in ODD + [0, "inn", "ann", "zoe"]:
            with self.assertRaises(NoName) as caught:
                world().house(thing)
            self.assertIs(caught.exception.thing, thing)


class Told(Case):
    def test_talks_and_hanging(self):
        made = ringing()
        self.assertEqual((made.talks(), made.hanging()), ([], []))
        made.do(TAKEN)
        self.assertEqual((made.talks(), made.hanging()), ([(TALK, "none", "waits")], [TALK]))
        made.do(("carry", 5))
        made.do(("carry", 6))
        self.assertEqual((made.talks(), made.hanging()), ([(TALK, "stands", "waits")], []))
        made.do(("calm", 1))
        self.assertEqual((made.talks(), made.hanging()), ([(TALK, "stands", "stands")], []))
        made.do(("end", "ann", TALK))
        self.assertEqual((made.talks(), made.hanging()), ([(TALK, "ends", "stands")], [TALK]))
        made.do(("end", "bob", TALK))
        self.assertEqual((made.talks(), made.hanging()), ([(TALK, "ends", "ends")], []))
        made.do(("calm", 1))
        self.assertEqual((made.talks(), made.hanging()), ([], []))

    def test_talks_are_sorted(self):
        made = world(PLACED, ("place", "hub", "yve", ("device", "ann"), 5, 900))
        for name, person in (("cat", "zoe"), ("ann", "zoe"), ("cat", "yve"), ("bob", "yve")):
            made.play([("call", name, person, "hub", "hello"), ("calm", 1)])
        taken = [("bob", ("cat", 0)), ("ann", ("bob", 0)), ("bob", ("ann", 0)), ("ann", ("cat", 1))]
        for device, call in taken:
            made.play([("take", device, call), ("calm", 1)])
        talks = [row[0] for row in made.talks()]
        self.assertEqual(talks, [(CALL, "bob", 1), (("bob", 0), "ann", 0), (("cat", 0), "bob", 0), (("cat", 1), "ann", 1)])
        self.assertEqual({row[1:] for row in made.talks()}, {("stands", "stands")})
        for device, call in taken[:3]:
            made.do(("end", call[0], [talk for talk in talks if talk[0] == call][0]))
        self.assertEqual(made.hanging(), talks[:3])

    def test_a_talk_of_which_one_end_is_over(self):
        made = talking(("end", "bob", TALK), ("carry", 9), ("carry", 10))
        self.assertEqual((made.talks(), made.hanging()), ([(TALK, "over", "ends")], []))
        made.do(("lose", 11))
        made.do(BEAT)
        self.assertEqual(made.talks(), [(TALK, "none", "ends")])

    def test_beats_and_kept(self):
        made = world(PLACED, CALLED)
        # ann's Asker and call.
        self.assertEqual(made.kept(), 2)
        made.do(("carry", 0))
        # The house's Asked, Asker and Fork.
        self.assertEqual(made.kept(), 5)
        made.do(("carry", 2))
        # bob's Asked and ring.
        self.assertEqual(made.kept(), 7)
        made.do(TAKEN)
        # The ring has an end, the Talk waits.
        self.assertEqual(made.kept(), 7)
        self.assertEqual(made.kept(), sum([made.device(name).kept() for name in made.devices()]) + made.house("hub").kept())
        made.do(("calm", 20))
        self.assertEqual((made.kept(), made.beats()), (0, 20))

    def test_settled(self):
        made = talking()
        self.assertFalse(made.is_settled())
        made.do(("calm", 16))
        self.assertTrue(made.is_settled())
        self.assertEqual(made.do(("change", "ann", TALK, "warm")), [9])
        self.assertTrue(made.is_settled())
        for number in (9, 10, 11, 12):
            self.assertTrue(made.is_settled(), number)
            made.do(("carry", number))
        self.assertTrue(made.is_settled())
        made.do(("end", "ann", TALK))
        self.assertFalse(made.is_settled())

    def test_a_letter_alone_unsettles(self):
        # All askings are gone; a copy of a bye, of a held, of an answer to a bye is left.
        for ahead, word in (([], "held"), ([("end", "ann", TALK), ("carry", 10)], "ask"),
                            ([("end", "ann", TALK), ("carry", 10), ("carry", 11)], "answer")):
            made = talking()
            made = ringing(TAKEN, ("carry", 5), ("carry", 6), ("double", 7), ("carry", 7), ("carry", 9))
            made.play(ahead)
            number = made.letters()[0][0] if word == "held" else made.letters()[-1][0]
            self.assertEqual(dict(made.letters())[number][0], word)
            for beat in range(140):
                made.play([("lose", other) for other, letter in made.letters() if other != number] + [BEAT])
            made.play([("lose", other) for other, letter in made.letters() if other != number])
            self.assertEqual((made.kept(), len(made.letters())), (0, 1))
            self.assertFalse(made.is_settled())
            made.do(("lose", number))
            self.assertTrue(made.is_settled())

    def test_devices_and_houses_are_twins(self):
        made = ringing()
        like = made.twin()
        device, house = made.device("bob"), made.house("hub")
        self.assertEqual((device.rings(), sorted(house.forks())), ([CALL], [("ann", 0)]))
        device.take(CALL)
        house.beat()
        self.assertEqual(made, like)
        self.assertEqual(World(["ann"], [("hub", False)]).device("ann"), Device("ann"))
        self.assertEqual(World(["ann"], [("hub", False)]).house("hub"), House("hub", stays=False))

    def test_lists_are_the_askers_own(self):
        made = ringing(TAKEN)
        like = made.twin()
        for thing in (made.letters(), made.talks(), made.hanging(), made.devices(), made.houses(), made.do(BEAT), like.do(BEAT)):
            spoil(thing)
        told, other = made.play([BEAT]), like.play([BEAT])
        spoil(told)
        spoil(other)
        self.assertEqual(made, like)

    def test_what_was_told_stays(self):
        made = ringing(TAKEN)
        letters, talks = made.letters(), made.talks()
        made.do(("calm", 1))
        self.assertEqual(len(letters), 1)
        self.assertEqual(talks, [(TALK, "none", "waits")])

    def test_asked_is_nothing_done(self):
        made = ringing(TAKEN)
        like = made.twin()
        for name in made.devices():
            shown(made.device(name))
        made.letters(), made.talks(), made.hanging(), made.houses(), made.beats(), made.kept(), made.is_settled()
        self.assertEqual(made, like)


class Without(Case):
    def test_rules_reach_the_talks(self):
        for rule in RULES:
            made = talking(without=(rule,))
            self.assertEqual(made.device("bob").talks()[TALK], talking(without=(rule,)).device("bob").talks()[TALK])
            self.assertNotEqual(made.device("bob").talks()[TALK], talking().device("bob").talks()[TALK])
            fresh = world(without=(rule,))
            self.assertEqual(fresh.device("ann"), Device("ann", without=(rule,)))
            self.assertNotEqual(fresh.device("ann"), Device("ann"))

    def test_unlike_by_the_rules_left_out(self):
        for first in RULES:
            self.assertNotEqual(world(without=(first,)), world())
            # Houses alone have no rules, so these differ by what the World keeps itself.
            self.assertNotEqual(World([], [("hub", True)], without=(first,)), World([], [("hub", True)]))
            self.assertEqual(world(without=(first,)).twin(), world(without=(first,)))
            for second in RULES:
                if first != second:
                    self.assertNotEqual(world(without=(first,)), world(without=(second,)))
                    self.assertEqual(world(without=(first, second)), world(without=(second, first)))
        self.assertEqual(world(without=RULES), world(without=RULES[::-1]))

    def test_a_twin_goes_on_without(self):
        made = ringing(TAKEN, without=("hold",))
        twin = made.twin()
        for each in (made, twin):
            for beat in range(40):
                each.play([("lose", number) for number, letter in each.letters()] + [BEAT])
            self.assertEqual(each.hanging(), [TALK])
        self.assertEqual(made, twin)


class Alike(Case):
    def test_by_what_is_done(self):
        ways = (
            [], [BEAT], [BEAT, BEAT], [CALLED], [CALLED, ("lose", 0)], [CALLED, ("double", 0)],
            [CALLED, ("double", 0), ("lose", 0)], [CALLED, ("double", 0), ("lose", 1)], [CALLED, ("carry", 0)], [PLACED],
            [("place", "hub", "zoe", BOB, 5, 899)], [PLACED, CALLED, ("calm", 1)], [PLACED, CALLED, ("calm", 1), TAKEN],
            [CALLED, CALLED], [("call", "ann", "zoe", "hub", "warm")], [("call", "bob", "zoe", "hub", "hello")],
        )
        for first, deeds in enumerate(ways):
            for second, others in enumerate(ways):
                self.assertEqual(world(*deeds) == world(*others), first == second, (deeds, others))

    def test_by_the_number_that_the_next_letter_gets(self):
        one = world(CALLED, ("double", 0), ("lose", 0), ("double", 1), ("lose", 1), ("double", 2), ("lose", 2))
        two = world(CALLED, ("double", 0), ("double", 0), ("double", 0), ("lose", 0), ("lose", 1), ("lose", 2))
        self.assertEqual(one, two)
        two.play([("double", 3), ("lose", 4)])
        self.assertEqual(one.letters(), two.letters())
        self.assertNotEqual(one, two)

    def test_by_devices_and_houses(self):
        base = World(["ann"], [("hub", True)])
        for other in (
            World(["bob"], [("hub", True)]), World(["ann"], [("inn", True)]), World(["ann"], [("hub", False)]),
            World(["ann", "bob"], [("hub", True)]), World(["ann"], []), World(["ann", "hub"], []),
        ):
            self.assertNotEqual(base, other)
        self.assertEqual(World(["bob", "ann"], []), World(["ann", "bob"], []))

    def test_by_the_beats(self):
        made = World(["ann"], [])
        made.do(BEAT)
        self.assertNotEqual(made, World(["ann"], []))

    def test_by_which_letters_are_of_kind_again(self):
        """Two worlds alike but for the kind of the asking to which the one letter left is an answer."""
        made = []
        for first, second in (
            (("change", "ann", TALK, "warm"), ("end", "bob", TALK)), (("end", "ann", TALK), ("here", "bob", "zoe", "hub", 5, 900)),
        ):
            one = talking(("calm", 16), first, ("carry", 9), ("carry", 10), second, ("lose", 12))
            for beat in range(40):
                one.do(BEAT)
                one.play([("lose", number) for number, letter in one.letters() if number != 11])
            made.append(one)
        again, bye = made
        self.assertEqual(again.letters(), [(11, answer("bob", "hub", 1, "done"))])
        self.assertEqual(again.letters(), bye.letters())
        for name in ("ann", "bob", "cat"):
            self.assertEqual(again.device(name), bye.device(name))
        self.assertEqual(again.house("hub"), bye.house("hub"))
        self.assertEqual((again.kept(), bye.kept(), again.do(BEAT), bye.do(BEAT)), (0, 0, [], []))
        self.assertEqual((again.is_settled(), bye.is_settled()), (True, False))
        self.assertNotEqual(again, bye)
        for each in made:
            self.assertEqual(each, each.twin())
            each.do(("double", 11))
        self.assertEqual((again.is_settled(), bye.is_settled()), (True, False))
        for each in made:
            each.play([("lose", number) for number, letter in each.letters()])
        self.assertEqual(again, bye)

    def test_a_twin_goes_on_by_itself(self):
        for deeds in ([], [CALLED], [PLACED, CALLED, ("calm", 1), TAKEN]):
            for deed in (BEAT, CALLED, ("calm", 3), PLACED):
                made = world(*deeds)
                twin = made.twin()
                self.assertEqual(made, twin)
                told = twin.do(deed)
                self.assertEqual(made, world(*deeds))
                self.assertEqual(made.do(deed), told)
                self.assertEqual(made, twin)
                self.assertEqual(made.do(CALLED), twin.do(CALLED))

    def test_to_other_things(self):
        for thing in (None, 0, "ann", [], Device("ann"), House("hub"), Talk("asker", "hello")):
            self.assertFalse(World(["ann"], []) == thing)

"""Otherwise: deeds led by a dict of names, and worlds called so."""

import unittest

from ringingcalls.errors import NoDeed, NoNames
from ringingcalls.letters import led, talk_named
from ringingcalls.otherwise import deeds_led
from ringingcalls.worlds import World
from tests.helper import CALL, ODD, drawn_worlds

TALK = (CALL, "bob", 3)
DEEDS = [
    ("call", "ann", "zoe", "hub", "ann"), ("give", "ann", 0), ("take", "bob", CALL), ("refuse", "bob", CALL, 486),
    ("end", "ann", TALK), ("change", "bob", TALK, "bob"), ("here", "bob", "zoe", "hub", 5, 60),
    ("place", "hub", "zoe", ("device", "bob"), 5, 60), ("place", "hub", "zoe", ("person", "zoe", "hub"), 0, 0),
    ("carry", 0), ("lose", 1), ("double", 2), ("beat",), ("calm", 5),
]
NAMES = {"ann": "eve", "bob": "fay", "zoe": "pia", "hub": "inn"}
LED = [
    ("call", "eve", "pia", "inn", "ann"), ("give", "eve", 0), ("take", "fay", ("eve", 0)), ("refuse", "fay", ("eve", 0), 486),
    ("end", "eve", (("eve", 0), "fay", 3)), ("change", "fay", (("eve", 0), "fay", 3), "bob"),
    ("here", "fay", "pia", "inn", 5, 60), ("place", "inn", "pia", ("device", "fay"), 5, 60),
    ("place", "inn", "pia", ("person", "pia", "inn"), 0, 0), ("carry", 0), ("lose", 1), ("double", 2), ("beat",), ("calm", 5),
]


class Led(unittest.TestCase):
    def test_all_words(self):
        self.assertEqual(deeds_led(DEEDS, NAMES), LED)
        self.assertEqual(deeds_led(names=NAMES, deeds=DEEDS), LED)

    def test_back_as_ahead(self):
        self.assertEqual(deeds_led(deeds_led(DEEDS, NAMES), {worth: name for name, worth in NAMES.items()}), DEEDS)

    def test_of_none_and_of_names_that_stand_in_none(self):
        for names in ({}, {"dan": "eve"}, {"call": "give", "device": "person", "beat": "carry"}, {"ann": "ann"}):
            self.assertEqual(deeds_led(DEEDS, names), DEEDS)

    def test_each_alone(self):
        for name, worth in NAMES.items():
            told = deeds_led(DEEDS, {name: worth})
            self.assertEqual(deeds_led(told, {worth: name}), DEEDS)
            self.assertNotEqual(told, DEEDS)
            others = {other: NAMES[other] for other in NAMES if other != name}
            self.assertEqual(deeds_led(told, others), LED)

    def test_exchanged(self):
        names = {"ann": "bob", "bob": "ann"}
        told = deeds_led(DEEDS, names)
        self.assertEqual(told[4], ("end", "bob", (("bob", 0), "ann", 3)))
        self.assertEqual(told[5], ("change", "ann", (("bob", 0), "ann", 3), "bob"))
        self.assertEqual(deeds_led(told, names), DEEDS)

    def test_a_person_a_house_and_a_device_of_one_name(self):
        deed = [("place", "ann", "ann", ("person", "ann", "ann"), 1, 1), ("place", "ann", "ann", ("device", "ann"), 1, 1)]
        self.assertEqual(deeds_led(deed, {"ann": "bob"}), [
            ("place", "bob", "bob", ("person", "bob", "bob"), 1, 1), ("place", "bob", "bob", ("device", "bob"), 1, 1),
        ])

    def test_words_of_targets_stay(self):
        deed = [("place", "hub", "zoe", ("device", "person"), 1, 1), ("place", "hub", "zoe", ("person", "device", "person"), 1, 1)]
        names = {"device": "person", "person": "device"}
        self.assertEqual(deeds_led(deed, names), [
            ("place", "hub", "zoe", ("device", "device"), 1, 1), ("place", "hub", "zoe", ("person", "person", "device"), 1, 1),
        ])

    def test_what_is_none_of_a_places_things_stays(self):
        deeds = [
            ("call", ["ann"], {"ann": 1}, None, "ann"), ("take", "ann", "ann"), ("take", "ann", ["ann", 0]), ("end", "ann", CALL),
            ("place", "hub", "zoe", ("ann", "bob"), "ann", "bob"), ("carry", "ann"), ("give", "ann", "ann"),
        ]
        self.assertEqual(deeds_led(deeds, NAMES), [
            ("call", ["ann"], {"ann": 1}, None, "ann"), ("take", "eve", "ann"), ("take", "eve", ["ann", 0]), ("end", "eve", CALL),
            ("place", "inn", "pia", ("ann", "bob"), "ann", "bob"), ("carry", "ann"), ("give", "eve", "ann"),
        ])

    def test_a_new_list(self):
        deeds, names = list(DEEDS), dict(NAMES)
        told = deeds_led(deeds, {})
        self.assertIsNot(told, deeds)
        told.clear()
        deeds_led(deeds, names).append(None)
        self.assertEqual((deeds, names), (DEEDS, NAMES))
        self.assertEqual(deeds_led([], NAMES), [])

    def test_no_deed(self):
        for thing in ODD + [0, ("beat",), (("beat",),), "beat", {"beat": 1}]:
            if not isinstance(thing, list):
                self.refused(NoDeed, thing, thing, None)
        for thing in ODD + [0, "beat", ["beat"], ("beat", 0), ("calm", 0), ("calm", 301), ("carry",), ("Beat",)]:
            for deeds in ([thing], [thing] + DEEDS, DEEDS + [thing]):
                self.refused(NoDeed, deeds, deeds, NAMES)
                self.refused(NoDeed, deeds, deeds, {"Ann": "bob"})

    def test_no_names(self):
        for thing in ODD + [0, [("ann", "bob")], {"ann": 1}, {"Ann": "bob"}, {"ann": "eve", "bob": "eve"}]:
            if thing.__class__ != dict or thing not in ({}, {"ann": "bob"}):
                self.refused(NoNames, thing, [], thing)
                self.refused(NoNames, thing, DEEDS, thing)

    def refused(self, error, thing, deeds, names):
        """Refused with this thing."""
        with self.assertRaises(error) as caught:
            deeds_led(deeds, names)
        self.assertIs(caught.exception.thing, thing)


class Called(unittest.TestCase):
    # Lesser names stay lesser ones, those that are no keys among them.
    ORDERS = (
        {"ann": "aa", "bob": "ab", "cat": "bz", "dan": "dz", "hub": "gg", "inn": "hb", "joy": "k", "xan": "xa", "yve": "xb"},
        {"ann": "b", "bob": "bb", "cat": "bbb", "dan": "c", "hub": "d", "inn": "e", "joy": "f", "xan": "g", "yve": "h",
         "zed": "i", "zoe": "j"},
        {"zed": "zeb", "zoe": "zzzzzzzz", "joy": "m"},
    )

    def test_a_world_called_otherwise_tells_the_same(self):
        for names in self.ORDERS:
            for drawn, rates, steps in drawn_worlds(31, 24, (40, 150)):
                for step in range(steps):
                    drawn.step(rates)
                drawn.do(("calm", 3))
                drawn.do(("beat",))
                self.look(drawn, names)

    def look(self, drawn, names):
        """The same deeds, led so, in a world called so."""
        houses = [(names.get(name, name), stays) for name, stays in drawn.houses]
        other = World([names.get(name, name) for name in drawn.names], houses)
        self.assertEqual(other.play(deeds_led(drawn.deeds, names)), drawn.told)
        world = drawn.world
        self.assertEqual(other.letters(), [(number, led(letter, names)) for number, letter in world.letters()])
        self.assertEqual(other.talks(), [(talk_named(row[0], names),) + row[1:] for row in world.talks()])
        self.assertEqual(other.hanging(), [talk_named(talk, names) for talk in world.hanging()])
        self.assertEqual((other.kept(), other.beats(), other.is_settled()), (world.kept(), world.beats(), world.is_settled()))

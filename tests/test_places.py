"""Places: at which targets persons are, and for how long."""

import random
import unittest

from ringingcalls.errors import NoName, NoNumber, NoTarget, TooMany
from ringingcalls.places import Places
from tests.helper import EIGHT, ODD, spoil

A, B, C, H = ("device", "ann"), ("device", "bob"), ("device", "cat"), ("person", "yve", "hub")
TARGETS = [("device", name) for name in EIGHT]
NINTH = ("person", "zoe", "hub")
NOT_NAMES = ODD + [0, 1, ("ann",), A]
NOT_TARGETS = ODD + [0, "ann", ("device",), ("device", "Ann"), ("house", "hub"), ["device", "ann"], ("person", "zoe")]
NOT_NUMBERS = ODD + [10 ** 29, "1", (1,), [1]]


def told(places):
    """All that places tell of themselves and the persons there."""
    persons = places.persons()
    return (persons, len(places), [places.groups(person) for person in persons])


def full():
    """Places with eight targets of zoe."""
    places = Places()
    for target in TARGETS:
        places.tell("zoe", target, 3, 5)
    return places


class Tellings(unittest.TestCase):
    def test_a_new_one_has_none(self):
        places = Places()
        self.assertEqual(told(places), ([], 0, []))
        self.assertEqual((places.groups("zoe"), places.left("zoe", A)), ((), 0))

    def test_one_target(self):
        places = Places()
        self.assertIsNone(places.tell("zoe", A, 3, 5))
        self.assertEqual(told(places), (["zoe"], 1, [((A,),)]))
        self.assertEqual(places.left("zoe", A), 5)
        self.assertEqual((places.left("zoe", B), places.left("ann", A)), (0, 0))

    def test_by_names(self):
        places = Places()
        places.tell(beats=2, weight=9, target=H, person="zoe")
        self.assertEqual(places.groups(person="zoe"), ((H,),))
        self.assertEqual(places.left(target=H, person="zoe"), 2)

    def test_all_weights_the_greatest_first(self):
        places = Places()
        names = "jihgfedcba"
        for weight in (4, 0, 9, 2, 7, 5, 1, 8):
            places.tell("zoe", ("device", names[weight]), weight, 1)
        self.assertEqual([group[0][1] for group in places.groups("zoe")], list("abcefhij"))
        for weight in range(10):
            places = Places()
            places.tell("zoe", A, 5, 1)
            places.tell("zoe", B, weight, 1)
            groups = {True: ((B,), (A,)), False: ((A,), (B,))}[weight > 5]
            self.assertEqual(places.groups("zoe"), ((A, B),) if weight == 5 else groups)

    def test_groups_are_sorted_targets_of_both_kinds(self):
        places = Places()
        for target in (H, ("person", "ann", "inn"), C, A, ("person", "ann", "hub"), B):
            places.tell("zoe", target, 5, 1)
        places.tell("zoe", ("device", "zed"), 6, 1)
        groups = places.groups("zoe")
        self.assertEqual(groups, (
            (("device", "zed"),), (A, B, C, ("person", "ann", "hub"), ("person", "ann", "inn"), H),
        ))
        self.assertTrue(all(isinstance(group, tuple) for group in (groups,) + groups))

    def test_the_order_of_tellings_is_none_of_it(self):
        chance = random.Random(10)
        rows = [("zoe", A, 3), ("zoe", B, 3), ("zoe", C, 7), ("ann", A, 1), ("ann", H, 2)]
        for run in range(50):
            chance.shuffle(rows)
            places = Places()
            for person, target, weight in rows:
                places.tell(person, target, weight, 4)
            self.assertEqual(told(places), (["ann", "zoe"], 5, [((H,), (A,)), ((C,), (A, B))]))

    def test_in_the_stead_of_the_elder(self):
        places = Places()
        places.tell("zoe", A, 3, 500)
        places.tell("zoe", B, 4, 500)
        places.tell("zoe", A, 5, 2)
        self.assertEqual((places.groups("zoe"), places.left("zoe", A), len(places)), (((A,), (B,)), 2, 2))
        places.tell("zoe", A, 0, 999)
        self.assertEqual((places.groups("zoe"), places.left("zoe", A), len(places)), (((B,), (A,)), 999, 2))

    def test_for_no_beats_it_goes(self):
        places = Places()
        places.tell("zoe", A, 3, 5)
        places.tell("ann", A, 3, 5)
        places.tell("zoe", B, 3, 0)
        self.assertEqual(len(places), 2)
        places.tell("zoe", A, 9, 0)
        self.assertEqual(told(places), (["ann"], 1, [((A,),)]))
        self.assertEqual((places.left("zoe", A), places.left("ann", A)), (0, 5))
        places.tell("zoe", A, 9, 0)
        self.assertEqual(len(places), 1)


class Beats(unittest.TestCase):
    def test_until_each_is_gone(self):
        places = Places()
        places.tell("zoe", A, 3, 1)
        places.tell("zoe", B, 3, 2)
        places.tell("ann", A, 3, 999)
        self.assertIsNone(places.beat())
        self.assertEqual(told(places), (["ann", "zoe"], 2, [((A,),), ((B,),)]))
        self.assertEqual([places.left("zoe", A), places.left("zoe", B), places.left("ann", A)], [0, 1, 998])
        places.beat()
        self.assertEqual(told(places), (["ann"], 1, [((A,),)]))
        for beat in range(996):
            places.beat()
        self.assertEqual((places.left("ann", A), len(places)), (1, 1))
        places.beat()
        self.assertEqual(told(places), ([], 0, []))
        places.beat()
        self.assertEqual(told(places), ([], 0, []))

    def test_a_beat_leaves_the_weights(self):
        places = Places()
        places.tell("zoe", A, 3, 5)
        places.tell("zoe", B, 4, 5)
        places.beat()
        self.assertEqual(places.groups("zoe"), ((B,), (A,)))

    def test_told_again_it_counts_anew(self):
        places = Places()
        places.tell("zoe", A, 3, 2)
        for again in range(5):
            places.beat()
            places.tell("zoe", A, 3, 2)
        self.assertEqual(places.left("zoe", A), 2)


class Nine(unittest.TestCase):
    def test_eight_and_a_ninth(self):
        for beats in (1, 2, 999):
            places = full()
            with self.assertRaises(TooMany) as caught:
                places.tell("zoe", NINTH, 9, beats)
            self.assertEqual(caught.exception.many, 9)
            self.assertEqual(places, full())
            self.assertEqual(places.left("zoe", NINTH), 0)

    def test_a_ninth_for_no_beats_is_nothing(self):
        places = full()
        self.assertIsNone(places.tell("zoe", NINTH, 9, 0))
        self.assertEqual(places, full())

    def test_one_of_the_eight_told_again(self):
        places = full()
        for target in TARGETS:
            places.tell("zoe", target, 4, 7)
        self.assertEqual((places.groups("zoe"), len(places)), ((tuple(TARGETS),), 8))
        self.assertEqual([places.left("zoe", target) for target in TARGETS], [7] * 8)

    def test_another_person_has_eight_too(self):
        places = full()
        for target in TARGETS:
            places.tell("ann", target, 3, 5)
        self.assertEqual(len(places), 16)
        for person in ("ann", "zoe"):
            with self.assertRaises(TooMany):
                places.tell(person, NINTH, 3, 5)

    def test_once_one_is_gone_there_is_room(self):
        places = full()
        places.tell("zoe", TARGETS[0], 3, 0)
        places.tell("zoe", NINTH, 3, 5)
        self.assertEqual(len(places), 8)
        for beat in range(5):
            with self.assertRaises(TooMany):
                places.tell("zoe", TARGETS[0], 3, 5)
            places.beat()
        places.tell("zoe", TARGETS[0], 3, 5)
        self.assertEqual(len(places), 1)


class Anything(unittest.TestCase):
    def test_groups_and_left(self):
        places = full()
        for thing in NOT_NAMES + ["ann"]:
            self.assertEqual(places.groups(thing), ())
            self.assertEqual(places.left(thing, TARGETS[0]), 0)
        for thing in NOT_TARGETS + [A]:
            self.assertEqual(places.left("zoe", thing), 0)
            self.assertEqual(places.left(thing, thing), 0)
        self.assertEqual(places, full())


class Refusals(unittest.TestCase):
    def refused(self, kind, thing, *arguments):
        """The very thing is refused so, and nothing is changed."""
        places = full()
        with self.assertRaises(kind) as caught:
            places.tell(*arguments)
        self.assertIs(caught.exception.thing, thing)
        self.assertEqual(places, full())

    def test_no_name(self):
        for thing in NOT_NAMES:
            self.refused(NoName, thing, thing, A, 3, 5)

    def test_no_target(self):
        for thing in NOT_TARGETS:
            self.refused(NoTarget, thing, "zoe", thing, 3, 5)

    def test_no_number(self):
        for thing in NOT_NUMBERS:
            self.refused(NoNumber, thing, "zoe", A, thing, 5)
            self.refused(NoNumber, thing, "zoe", A, 3, thing)
        self.refused(NoNumber, 10, "zoe", A, 10, 5)
        self.refused(NoNumber, 1000, "zoe", A, 3, 1000)

    def test_their_order(self):
        for thing in ("Zoe", None, -1):
            self.refused(NoName, thing, thing, "no target", -1, 1000)
            self.refused(NoTarget, thing, "zoe", thing, -1, 1000)
        self.refused(NoNumber, 10, "zoe", NINTH, 10, 1000)
        self.refused(NoNumber, 1000, "zoe", NINTH, 3, 1000)
        self.refused(NoNumber, 10, "zoe", NINTH, 10, 1)


class Alike(unittest.TestCase):
    def unlike(self, first, second):
        self.assertFalse(first == second)
        self.assertFalse(second == first)
        self.assertTrue(first != second)

    def one(self, person="zoe", target=A, weight=3, beats=5):
        places = Places()
        places.tell(person, target, weight, beats)
        return places

    def test_persons_targets_weights_and_beats_left(self):
        self.assertEqual(self.one(), self.one())
        self.unlike(self.one(), self.one(person="ann"))
        self.unlike(self.one(), self.one(target=B))
        self.unlike(self.one(), self.one(weight=4))
        self.unlike(self.one(), self.one(beats=6))
        self.unlike(self.one(), Places())
        later = self.one(beats=6)
        later.beat()
        self.assertEqual(self.one(), later)

    def test_what_came_and_went_is_none_of_it(self):
        places = self.one(beats=1)
        places.beat()
        self.assertEqual(places, Places())

    def test_the_order_of_tellings_is_none_of_it(self):
        first, second = self.one(), self.one(target=B)
        first.tell("zoe", B, 3, 5)
        second.tell("zoe", A, 3, 5)
        self.assertEqual(first, second)

    def test_a_twin_goes_on_by_itself(self):
        places = full()
        twin = places.twin()
        self.assertIsInstance(twin, Places)
        self.assertEqual(twin, places)
        twin.beat()
        twin.tell("ann", A, 3, 5)
        twin.tell("zoe", TARGETS[0], 3, 0)
        self.assertEqual(places, full())
        self.assertEqual(told(places), told(full()))
        twin = places.twin()
        places.beat()
        places.tell("zoe", TARGETS[0], 3, 0)
        self.assertEqual(twin, full())

    def test_things_of_other_kinds(self):
        for places in (Places(), full()):
            for thing in ODD + [Places, {}, 0, [], (), told(places)]:
                self.assertIs(places == thing, False)
                self.assertIs(places != thing, True)


class Told(unittest.TestCase):
    def test_what_was_told_is_the_askers_own(self):
        places = full()
        spoil(places.persons())
        self.assertEqual(places.persons(), ["zoe"])
        self.assertIsNot(places.persons(), places.persons())
        self.assertEqual(places, full())

    def test_what_comes_later_changes_nothing_told(self):
        places = full()
        persons, groups = places.persons(), places.groups("zoe")
        places.tell("ann", A, 3, 5)
        for beat in range(9):
            places.beat()
        self.assertEqual((persons, groups), (["zoe"], (tuple(TARGETS),)))

    def test_what_is_asked_changes_nothing(self):
        places = full()
        for again in range(3):
            told(places)
            places.left("ann", A)
            places.groups("ann")
            places.twin()
        self.assertEqual(places, full())

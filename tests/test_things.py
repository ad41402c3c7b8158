"""The looks of things: what is a number, a name, a rank, a call, a talk, a target, a path."""

import unittest

from ringingcalls.things import is_call, is_count, is_name, is_path, is_rank, is_talk, is_target, is_whole
from tests.helper import EIGHT, ODD, TALK, Agreeing, Contrary, as_lists, places, put, twice, without

LOOKS = [is_whole, is_name, is_rank, is_call, is_talk, is_target, is_path]

# Things of which each look answers True.
GOOD = {
    is_whole: [0, 1, 300, 10 ** 29],
    is_name: ["a", "z", "ann", "abcdefgh", "device", "person"],
    is_rank: [300, 301, 480, 698, 699],
    is_call: [("ann", 0), ("a", 1), ("abcdefgh", 10 ** 29)],
    is_talk: [TALK, (("ann", 0), "bob", 0), (("a", 1), "b", 7), (("bob", 1), "ann", 0)],
    is_target: [("device", "bob"), ("device", "device"), ("person", "zoe", "hub"), ("person", "hub", "hub")],
    is_path: [(), ("hub",), ("hub", "den"), EIGHT],
}


class Look(unittest.TestCase):
    def yes(self, look, *things):
        for thing in things:
            self.assertIs(look(thing), True, (look.__name__, thing))

    def no(self, look, *things):
        for thing in things:
            self.assertIs(look(thing), False, (look.__name__, thing))


class Anything(Look):
    def test_good_ones(self):
        for look, things in GOOD.items():
            self.yes(look, *things)

    def test_good_ones_by_the_argument_name(self):
        for look, things in GOOD.items():
            for thing in things:
                self.assertIs(look(thing=thing), True)
            self.assertIs(look(thing=None), False)

    def test_odd_ones(self):
        for look in LOOKS:
            self.no(look, *ODD)

    def test_good_ones_of_others(self):
        self.no(is_whole, "ann", ("ann", 0), TALK, ("device", "bob"), ())
        self.no(is_name, 0, ("ann", 0), TALK, ("device", "bob"), (), ("ann",))
        self.no(is_rank, "ann", ("ann", 0), TALK, ("device", "bob"), ())
        self.no(is_call, 0, "ann", TALK, ("device", "bob"), (), ("ann",))
        self.no(is_talk, 0, "ann", ("ann", 0), ("person", "zoe", "hub"), (), EIGHT)
        self.no(is_target, 0, "device", ("ann", 0), TALK, (), ("ann", "bob"), ("ann", "bob", "cat"))
        self.no(is_path, 0, "ann", ("ann", 0), TALK)

    def test_odd_ones_at_each_place(self):
        for look in (is_call, is_talk, is_target, is_path):
            for good in GOOD[look]:
                for at in places(good):
                    self.no(look, *[put(good, at, odd) for odd in ODD])

    def test_one_item_more(self):
        for look in (is_call, is_talk, is_target):
            for good in GOOD[look]:
                self.no(look, *[twice(good, at) for at in places(good)])
                self.no(look, good + (0,), good + ("bob",), good + (None,))

    def test_one_item_less(self):
        for look in (is_call, is_talk, is_target):
            for good in GOOD[look]:
                self.no(look, *[without(good, at) for at in places(good)])

    def test_lists_in_the_stead_of_tuples(self):
        for look in (is_call, is_talk, is_target, is_path):
            for good in GOOD[look]:
                self.no(look, *as_lists(good))


class Numbers(Look):
    def test_whole_numbers_are_from_0_on(self):
        self.yes(is_whole, 0, 1)
        self.no(is_whole, -1, -10 ** 29, True, False, "1", b"1", (1,))

    def test_counts_are_from_0_to_most(self):
        for most in (0, 1, 9, 999):
            self.assertIs(is_count(0, most), True)
            self.assertIs(is_count(most, most), True)
            self.assertIs(is_count(most + 1, most), False)
            self.assertIs(is_count(-1, most), False)

    def test_counts_of_anything(self):
        for odd in ODD + ["ann", (), ("ann", 0)]:
            self.assertIs(is_count(odd, 9), False)
            self.assertIs(is_count(thing=odd, most=9), False)
            self.assertIs(is_count(0, odd), False)

    def test_counts_by_the_argument_names(self):
        self.assertIs(is_count(thing=9, most=9), True)
        self.assertIs(is_count(most=9, thing=10), False)

    def test_ranks_are_from_300_to_699(self):
        self.yes(is_rank, 300, 699)
        self.no(is_rank, 299, 700, 0, -300, True, "300")


class Names(Look):
    def test_one_to_eight_signs(self):
        self.yes(is_name, "a", "abcdefgh")
        self.no(is_name, "", "abcdefghi", "a" * 6000)

    def test_every_small_letter(self):
        self.yes(is_name, *"abcdefghijklmnopqrstuvwxyz")

    def test_no_other_sign_anywhere(self):
        for code in [10] + list(range(32, 127)):
            if not ord("a") <= code <= ord("z"):
                sign = chr(code)
                self.no(is_name, sign, "a" + sign, sign + "a", "a" + sign + "a")


class Calls(Look):
    def test_numbers_from_0_on(self):
        self.yes(is_call, ("ann", 0))
        self.no(is_call, ("ann", -1), ("ann", True), ("ann", False), ("ann", "0"))

    def test_names_at_their_bounds(self):
        self.yes(is_call, ("abcdefgh", 0))
        self.no(is_call, ("", 0), ("abcdefghi", 0), ("Ann", 0), ("ann1", 0))

    def test_things_exchanged(self):
        self.no(is_call, (0, "ann"))


class Talks(Look):
    def test_the_device_is_another_than_the_calls(self):
        self.yes(is_talk, (("ann", 0), "bob", 0))
        self.no(is_talk, (("ann", 0), "ann", 0))

    def test_numbers_from_0_on(self):
        self.no(is_talk, (("ann", 0), "bob", -1), (("ann", -1), "bob", 0))
        self.no(is_talk, (("ann", 0), "bob", True), (("ann", False), "bob", 0))

    def test_things_exchanged(self):
        self.no(is_talk, ("bob", ("ann", 0), 0), (("ann", 0), 0, "bob"))

    def test_objects_that_answer_as_they_like(self):
        self.no(is_talk, (Agreeing(), "bob", 0), (("ann", 0), Contrary(), 0))


class Targets(Look):
    def test_other_words(self):
        self.no(is_target, ("house", "hub"), ("devices", "bob"), ("Person", "zoe", "hub"), ("talk", "zoe", "hub"))
        self.no(is_target, (Agreeing(), "bob"), (Contrary(), "bob"), (Agreeing(), "zoe", "hub"))

    def test_words_with_the_things_of_the_other(self):
        self.no(is_target, ("device", "zoe", "hub"), ("person", "zoe"))

    def test_words_alone(self):
        self.no(is_target, ("device",), ("person",), "device", "person")


class Paths(Look):
    def test_no_name_and_eight(self):
        self.yes(is_path, (), EIGHT)

    def test_nine_names(self):
        self.no(is_path, EIGHT + ("i",))

    def test_one_name_twice(self):
        self.no(is_path, ("hub", "hub"), ("hub", "den", "hub"), EIGHT[:7] + ("a",))

    def test_what_is_no_name_in_it(self):
        self.no(is_path, ("hub", 1), ("hub", True), (["hub"],), (("hub",),), ("Hub",), (Contrary(), "hub"))

"""Rules: of each one a weaving that goes wrong without it, and with all rules doesn't."""

import unittest

from ringingcalls.devices import Device
from ringingcalls.errors import NoRule
from ringingcalls.rules import breaking
from ringingcalls.talks import Talk
from ringingcalls.worlds import RULES, World, is_deed
from tests.helper import ODD, spoil


def behind(rule, without):
    """The world behind the rule's weaving and its calm rounds, and the calls that were given up in it."""
    deeds, rounds = breaking(rule)
    world = World(["ann", "bob", "cat"], [("hub", True)], without=without)
    for deed in deeds:
        world.do(deed)
    world.do(("calm", rounds))
    return world, {(deed[1], deed[2]) for deed in deeds if deed[0] == "give"}


def faults(world, given):
    """What is wrong in a world, as words."""
    found = ["hangs"] if world.hanging() else []
    both = [talk for talk, asker, asked in world.talks() if (asker, asked) == ("stands", "stands")]
    if len({talk[0] for talk in both}) < len(both):
        found.append("two")
    if {talk[0] for talk in both} & given:
        found.append("given")
    for talk in both:
        short, long = sorted([world.device(name).talks()[talk].changes() for name in (talk[0][0], talk[1])], key=len)
        if long[:len(short)] != short:
            found.append("changes")
    return found


FAULTS = {
    "hold": ["hangs"], "extra": ["two"], "given": ["given"], "refresh": ["hangs"], "late": ["changes"],
    "glare": ["changes"], "number": ["changes"],
}


class Breaking(unittest.TestCase):
    def test_deeds_and_rounds(self):
        for rule in RULES:
            told = breaking(rule)
            self.assertIsInstance(told, tuple)
            deeds, rounds = told
            self.assertIsInstance(deeds, list)
            self.assertTrue(all(is_deed(deed) for deed in deeds))
            self.assertIs(type(rounds), int)
            self.assertTrue(1 <= rounds <= 300)

    def test_new_lists_each_time(self):
        for rule in RULES:
            deeds, rounds = breaking(rule)
            like = list(deeds)
            spoil(deeds)
            self.assertEqual(breaking(rule=rule), (like, rounds))

    def test_without_this_rule_alone(self):
        for rule in RULES:
            self.assertEqual(faults(*behind(rule, (rule,))), FAULTS[rule], rule)

    def test_with_all_rules(self):
        for rule in RULES:
            world, given = behind(rule, ())
            self.assertEqual(faults(world, given), [], rule)
            self.assertTrue(world.is_settled(), rule)

    def test_without_another_rule_alone_where_it_does_not_matter(self):
        # Each weaving is of its own rule: without any other one alone nothing goes wrong in it.
        for rule in RULES:
            for other in RULES:
                if other != rule:
                    self.assertEqual(faults(*behind(rule, (other,))), [], (rule, other))

    def test_without_several(self):
        for rule in ("glare", "number"):
            for without in (("glare", "number"), ("number", "glare"), RULES):
                self.assertEqual(faults(*behind(rule, without)), ["changes"], (rule, without))
        for without in (("hold", "refresh"), ("refresh", "hold")):
            self.assertEqual(faults(*behind("refresh", without)), ["hangs"])

    def test_no_rule(self):
        for thing in ODD + [0, "holds", "Hold", ("hold",), ["hold"], b"hold", "hold ", RULES]:
            with self.assertRaises(NoRule) as caught:
                breaking(thing)
            self.assertIs(caught.exception.thing, thing)


class Unlike(unittest.TestCase):
    def made(self, without):
        """A World, a Device, both Talks without these rules."""
        return [
            World(["ann"], [("hub", True)], without=without), Device("ann", without=without),
            Talk("asker", "hello", without=without), Talk("asked", "hello", without=without),
        ]

    def test_of_which_other_rules_are_left_out(self):
        choices = [()] + [(rule,) for rule in RULES] + [("hold", "glare"), ("hold", "late"), ("glare", "late"), RULES]
        for first, without in enumerate(choices):
            for second, others in enumerate(choices):
                for one, two in zip(self.made(without), self.made(others)):
                    self.assertEqual(one == two, first == second, (without, others))

    def test_the_order_does_not_matter(self):
        for one, two in zip(self.made(RULES), self.made(RULES[::-1])):
            self.assertEqual(one, two)

"""Both machines of one asking, with drawn letters between: lost, doubled, late."""

import random
import unittest

from ringingcalls.askeds import Asked
from ringingcalls.askers import ANSWERS, LIFE, QUIET, RINGING, SORTS, Asker

# Behind how many beats, since the last answer came, an asker has an end, and is over.
MOST_TO_END = {"ring": RINGING + LIFE, "other": LIFE}
MOST_BEHIND_END = {"ring": LIFE, "other": QUIET}


class Line:
    """An asker, the asked one, and letters under way; looks at each step whether a promise is broken."""

    def __init__(self, test, chance, sort, loses):
        self.test, self.chance, self.sort, self.loses = test, chance, sort, loses
        self.asker, self.asked, self.said = Asker(sort), None, []
        self.mail = ["ask"]
        self.quiet = 0
        self.ended = {"asker": None, "asked": None}
        self.lost = False
        self.forgotten = False

    def told_by_asker(self, what):
        """What the asker tells is sent."""
        self.mail += [word for word in what if word in ("ask", "sure")]

    def told_by_asked(self, what):
        """What the asked one tells is sent: the last thing said."""
        self.mail += [self.said[-1] for say in what]

    def come(self, letter):
        """A letter comes at its other end."""
        if letter in ("ask", "sure") and self.forgotten:
            return
        if letter == "ask" and self.asked is None:
            self.asked = Asked(self.sort)
        elif letter == "ask":
            self.told_by_asked(self.asked.hear_again())
        elif letter == "sure":
            self.told_by_asked(self.asked.hear_sure())
        else:
            self.quiet = 0
            self.told_by_asker(self.asker.hear(letter))

    def beat(self):
        """Both have a beat; what is over is forgotten by the asked one."""
        self.quiet += 1
        self.told_by_asker(self.asker.beat())
        if self.asked is not None:
            self.told_by_asked(self.asked.beat())
            self.forgotten = self.forgotten or self.asked.state() == "over"

    def say(self):
        """The asked one says some word."""
        if self.asked is not None and not self.forgotten:
            word = self.chance.choice(ANSWERS[self.sort])
            if self.asked.state() == "goes" or (self.asked.state(), word) == ("took", "taken"):
                self.said.append(word)
            self.told_by_asked(self.asked.say(word))

    def step(self):
        """One drawn deed."""
        deed = self.chance.choice(["come"] * 5 + ["beat"] * 4 + ["lose", "double", "say", "give"])
        if deed == "beat":
            self.beat()
        elif deed == "say":
            self.say()
        elif deed == "give":
            if self.chance.random() < 0.2:
                self.told_by_asker(self.asker.give_up())
        elif self.mail:
            letter = self.chance.choice(self.mail)
            if deed == "double":
                self.mail.append(letter)
            elif deed == "come" or self.loses:
                self.mail.remove(letter)
                if deed == "come":
                    self.come(letter)
                self.lost = self.lost or deed == "lose"

    def look(self):
        """No promise is broken."""
        for name, machine in (("asker", self.asker), ("asked", self.asked)):
            if self.ended[name] is not None:
                self.test.assertEqual(machine.end(), self.ended[name])
            elif machine is not None:
                self.ended[name] = machine.end()
        end = self.asker.end()
        self.test.assertTrue(end in (None, "late") or end in self.said, (end, self.said))
        if end not in (None, "late"):
            self.test.assertEqual(end, self.asked.end())
        if self.quiet >= MOST_TO_END[self.sort]:
            self.test.assertIsNotNone(end)
        if self.quiet >= MOST_TO_END[self.sort] + MOST_BEHIND_END[self.sort]:
            self.test.assertEqual(self.asker.state(), "over")


class Drawn(unittest.TestCase):
    def lines(self, seed, loses):
        """Lines with so many drawn deeds behind each, looked at behind each deed."""
        chance = random.Random(seed)
        for run in range(400):
            line = Line(self, chance, SORTS[run & 1], loses)
            for step in range(chance.choice((10, 60, 250))):
                line.step()
                line.look()
            yield line

    def test_with_letters_lost_and_doubled(self):
        ends = set()
        for line in self.lines(1, True):
            ends.add((line.sort, line.asker.end()))
        self.assertEqual(ends, {
            ("ring", None), ("ring", "taken"), ("ring", "no"), ("ring", "late"),
            ("other", None), ("other", "done"), ("other", "no"), ("other", "late"),
        })

    def test_each_end_comes_within_the_told_beats(self):
        for line in self.lines(2, True):
            for beat in range(MOST_TO_END[line.sort]):
                line.beat()
                line.look()
            self.assertIsNotNone(line.asker.end())
            for beat in range(MOST_BEHIND_END[line.sort]):
                line.beat()
            self.assertEqual(line.asker.state(), "over")
            if line.asked is not None:
                self.assertEqual(line.asked.state(), "over" if line.asked.end() else "goes")

    def test_what_is_over_tells_nothing_more(self):
        for line in self.lines(3, True):
            for beat in range(80):
                line.beat()
            end = line.asker.end()
            for word in ANSWERS[line.sort]:
                self.assertEqual((line.asker.hear(word), line.asker.beat(), line.asker.give_up()), ([], [], []))
            self.assertEqual(line.asker.end(), end)
            if line.asked is not None and line.asked.end() is not None:
                end = line.asked.end()
                for word in ANSWERS[line.sort]:
                    told = (line.asked.say(word), line.asked.hear_again(), line.asked.hear_sure(), line.asked.beat())
                    self.assertEqual(told, ([], [], [], []))
                self.assertEqual(line.asked.end(), end)

    def test_where_none_is_lost_the_ends_are_the_same_or_late(self):
        same = 0
        for line in self.lines(4, False):
            for beat in range(100):
                while line.mail:
                    line.come(line.mail.pop(0))
                line.beat()
                line.look()
            if line.asked is not None and line.asked.end() is not None and line.asker.end() != "late":
                self.assertEqual(line.asker.end(), line.asked.end())
                same += 1
        self.assertGreater(same, 100)

    def test_an_asked_one_is_over_16_beats_behind_its_end(self):
        for sort in SORTS:
            for word in ANSWERS[sort]:
                if word != "rings":
                    asked = Asked(sort)
                    asked.say(word)
                    for beat in range(LIFE):
                        self.assertNotEqual(asked.state(), "over")
                        asked.hear_again()
                        asked.beat()
                    self.assertEqual(asked.state(), "over")

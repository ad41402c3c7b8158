"""Both Talks of one talk, with drawn letters between: lost, late, doubled, and changes at both ends."""

import random
import unittest

from ringingcalls.askeds import Asked
from ringingcalls.askers import Asker
from ringingcalls.errors import Busy
from ringingcalls.talks import Talk

TEXTS = ("warm", "cool", "dry", "wet")


class End:
    """One end: its Talk, its askings within the talk, and those that it was asked; it tells lists of letters."""

    def __init__(self, role):
        self.talk = Talk(role, "hello")
        self.askers, self.askeds, self.asked_so_far = {}, {}, 0

    def sent(self, rows):
        """What its Talk told, as letters."""
        letters = []
        for row in rows:
            if row[0] == "taken":
                letters.append(("taken",))
            else:
                letters.append(("ask", self.asked_so_far, row))
                self.askers[self.asked_so_far] = (Asker("other"), letters[-1])
                self.asked_so_far += 1
        return letters

    def came_to(self, row, answer):
        """What came of an asking is told to the Talk."""
        return self.sent(self.talk.gone() if row[0] == "bye" else self.talk.answered(answer))

    def hear(self, letter):
        """A letter comes."""
        if letter[0] == "taken":
            return [("held",)] if self.talk.state() != "over" else []
        if letter[0] == "held":
            return self.sent(self.talk.held())
        if letter[0] == "ask":
            return self.hear_ask(letter[1], letter[2])
        asker, (word, number, row) = self.askers.get(letter[1], (None, (None, None, None)))
        if asker is None or "up" not in asker.hear("done" if letter[2] == "done" else "no"):
            return []
        return self.came_to(row, letter[2])

    def hear_ask(self, number, row):
        """An ask comes, new or again."""
        if number in self.askeds:
            asked, answer = self.askeds[number]
            return [("answer", number, answer) for say in asked.hear_again()]
        answer = self.talk.hear_bye(row[1]) if row[0] == "bye" else self.talk.hear_again(row[1], row[2])
        asked = Asked("other")
        self.askeds[number] = (asked, answer)
        return [("answer", number, answer) for say in asked.say("done" if answer == "done" else "no")]

    def beat(self):
        """A beat: of the askings, of what it was asked, of the Talk."""
        letters, late = [], []
        for number, (asker, letter) in sorted(self.askers.items()):
            what = asker.beat()
            letters += [letter for word in what if word == "ask"]
            late += [letter[2] for word in what if word == "late"]
        for row in late:
            letters += self.came_to(row, "late")
        for number, (asked, answer) in self.askeds.items():
            letters += [("answer", number, answer) for say in asked.beat()]
        letters += self.sent(self.talk.beat())
        self.askers = {number: row for number, row in self.askers.items() if row[0].state() != "over"}
        self.askeds = {number: row for number, row in self.askeds.items() if row[0].state() != "over"}
        return letters


class Both:
    """The two ends and the letters under way, each with the end to which it goes."""

    def __init__(self, test, chance, rates):
        self.test, self.chance, self.rates = test, chance, rates
        self.ends = {"asker": End("asker"), "asked": End("asked")}
        self.mail = [("asked", ("held",))]

    def lay(self, role, letters):
        """Letters of one end go to the other."""
        self.mail += [("asked" if role == "asker" else "asker", letter) for letter in letters]

    def carry(self, at):
        """A letter comes."""
        role, letter = self.mail.pop(at)
        self.lay(role, self.ends[role].hear(letter))
        self.look()

    def beat(self):
        """Both ends have a beat."""
        for role in ("asker", "asked"):
            self.lay(role, self.ends[role].beat())
            self.look()

    def change(self):
        """One end changes the talk, where it may."""
        role = self.chance.choice(("asker", "asked"))
        try:
            self.lay(role, self.ends[role].sent(self.ends[role].talk.change(self.chance.choice(TEXTS))))
        except Busy:
            pass

    def step(self):
        """One drawn deed."""
        deed = self.chance.choices(list(self.rates), list(self.rates.values()))[0]
        if deed == "beat":
            self.beat()
        elif deed == "change":
            self.change()
        elif deed == "end":
            role = self.chance.choice(("asker", "asked"))
            self.lay(role, self.ends[role].sent(self.ends[role].talk.end()))
        elif self.mail:
            at = self.chance.randrange(len(self.mail))
            if deed == "carry":
                self.carry(at if self.chance.random() < 0.5 else 0)
            elif deed == "double":
                self.mail.append(self.mail[at])
            else:
                del self.mail[at]
        self.look()

    def states(self):
        """Both states."""
        return [end.talk.state() for end in self.ends.values()]

    def changes(self):
        """Both lists of changes, the shorter one first."""
        return sorted([end.talk.changes() for end in self.ends.values()], key=len)

    def look(self):
        """As long as both stand one list is a beginning of the other, at most one shorter."""
        if self.states() == ["stands", "stands"]:
            short, long = self.changes()
            self.test.assertEqual(long[:len(short)], short)
            self.test.assertLessEqual(len(long) - len(short), 1)

    def calm(self, rounds):
        """Rounds in each of which all letters come, then both have a beat."""
        for once in range(rounds):
            while self.mail:
                self.carry(0)
            self.beat()
        while self.mail:
            self.carry(0)


class Drawn(unittest.TestCase):
    def runs(self, seed, many, **rates):
        """Talks behind drawn deeds of these rates."""
        chance = random.Random(seed)
        for run in range(many):
            both = Both(self, chance, rates)
            for step in range(chance.choice((30, 150, 600))):
                both.step()
            yield both

    def settled(self, both):
        """Once letters come both stand with the same changes, or neither stands; tells whether they stand."""
        both.calm(140)
        states = both.states()
        if "stands" in states:
            self.assertEqual(states, ["stands", "stands"])
            short, long = both.changes()
            self.assertEqual(short, long)
            return True
        self.assertEqual(states, ["over", "over"])
        return False

    def test_letters_that_all_come_late_and_doubled(self):
        stood = [self.settled(both) for both in self.runs(12, 150, carry=40, beat=5, change=6, double=4)]
        self.assertGreater(sum(stood), 75)

    def test_letters_lost(self):
        stood = [self.settled(both) for both in self.runs(13, 150, carry=15, beat=5, change=3, double=2, lose=8)]
        self.assertGreater(sum(stood), 20)
        self.assertGreater(stood.count(False), 5)

    def test_letters_slow_and_lost_and_ends(self):
        stood = [self.settled(both) for both in self.runs(14, 150, carry=6, beat=6, change=2, double=2, lose=2, end=0.1)]
        self.assertGreater(stood.count(False), 20)

    def test_all_letters_lost_ends_both(self):
        for both in self.runs(15, 60, carry=20, beat=3, change=3):
            for beat in range(130):
                both.mail.clear()
                both.beat()
            self.assertEqual(both.states(), ["over", "over"])


class Woven(unittest.TestCase):
    def both(self):
        """Both ends, standing."""
        both = Both(self, random.Random(0), {})
        both.carry(0)
        return both

    def change(self, both, role, text):
        """One end changes the talk."""
        both.lay(role, both.ends[role].sent(both.ends[role].talk.change(text)))

    def test_two_changes_at_once_are_refused_both_and_the_asked_ones_comes_first(self):
        both = self.both()
        self.change(both, "asker", "warm")
        self.change(both, "asked", "cool")
        both.carry(0)
        both.carry(0)
        self.assertEqual([letter for role, letter in both.mail], [("answer", 0, 491), ("answer", 0, 491)])
        both.calm(1)
        talks = [end.talk for end in both.ends.values()]
        self.assertEqual([talk.to_come() for talk in talks], ["warm", "cool"])
        both.calm(9)
        # The asker's change is let go, since another one was done meanwhile.
        self.assertEqual(both.changes(), [["hello", "cool"], ["hello", "cool"]])
        self.assertEqual([talk.to_come() for talk in talks], [None, None])

    def test_alone_the_asked_end_is_over_in_96_beats_and_its_bye(self):
        both = self.both()
        both.ends["asker"].talk.hear_bye(1)
        for beat in range(96):
            self.assertEqual(both.states(), ["over", "stands"])
            both.mail.clear()
            both.beat()
        self.assertEqual(both.states(), ["over", "ends"])

    def test_alone_the_askers_end_is_over_in_48_beats(self):
        both = self.both()
        both.ends["asked"].talk.hear_bye(1)
        for beat in range(48):
            self.assertEqual(both.states(), ["stands", "over"])
            both.mail.clear()
            both.beat()
        self.assertEqual(both.states(), ["over", "over"])

    def test_a_talk_that_is_left_alone_is_refreshed(self):
        both = self.both()
        both.calm(500)
        self.assertEqual(both.states(), ["stands", "stands"])
        self.assertEqual(both.changes(), [["hello"], ["hello"]])

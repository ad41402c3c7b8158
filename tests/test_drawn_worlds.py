"""Drawn worlds: what the whole promises, for drawn weavings, losses, copies and late letters."""

import random
import unittest

from ringingcalls.worlds import World
from tests.helper import RATES, DrawnWorld, drawn_worlds

LIVE = ("waits", "stands")


def standing(world):
    """The talks that stand at both ends."""
    return [talk for talk, asker, asked in world.talks() if (asker, asked) == ("stands", "stands")]


class Watch:
    """It looks at a drawn world behind each deed."""

    def __init__(self, test, drawn):
        self.test, self.drawn, self.world = test, drawn, drawn.world
        self.given, self.paths, self.noes, self.first = set(), {}, {}, {}

    def step(self, rates):
        """One drawn deed, and a look at all behind it."""
        deed, letters = self.drawn.step(rates)
        if deed and deed[0] == "give":
            self.look_at_give(deed[1], deed[2])
        for letter in letters:
            self.look_at_letter(letter)
        self.look_at_talks()
        self.forget_noes()
        return deed

    def look_at_give(self, name, number):
        """Of a call that is given up ahead of any taking heard no talk may be left."""
        if (name, number) not in self.first:
            self.given.add((name, number))

    def look_at_letter(self, letter):
        """A letter that was just laid."""
        houses = dict(self.drawn.houses)
        if letter[0] == "answer" and letter[4][0] == "taken" and letter[1] == letter[4][1]:
            # A device tells its taking by one path alone.
            word, device, number, path = letter[4]
            self.test.assertEqual(self.paths.setdefault((device, number), path), path)
            self.test.assertTrue(all(houses[name] for name in path))
        if letter[0] == "held":
            self.look_at_way(letter[3], (letter[1], letter[2]) + letter[4])
        if letter[0] == "ask" and letter[4] in ("bye", "again"):
            self.look_at_way(letter[5][0], (letter[1], letter[2]) + letter[5][2])
        if letter[0] == "answer" and letter[1] in houses and letter[4][0] in ("no", "taken"):
            self.look_at_no(letter)

    def look_at_way(self, talk, way):
        """A letter within a talk goes by just the houses of its path, in order, or back."""
        route = (talk[0][0],) + self.paths[talk[1:]] + (talk[1],)
        self.test.assertIn(way, (route[-len(way):], route[::-1][-len(way):]))

    def look_at_no(self, letter):
        """A house tells one no of a ring at most, and none behind a taking."""
        word, house, asker, number, what = letter
        key = (house, asker, number)
        if self.kind(asker, number) == "ring":
            known = self.noes.setdefault(key, what[:2] if what[0] == "no" else "taken")
            self.test.assertEqual(known, what if what[0] == "no" else "taken")

    def kind(self, asker, number):
        """The kind of an asking that was sent."""
        kinds = [
            letter[4] for letter in self.drawn.laid.values()
            if letter[0] == "ask" and (letter[1], letter[3]) == (asker, number)
        ]
        return kinds[0]

    def forget_noes(self):
        """A ring that a house keeps no more may come anew."""
        for key in list(self.noes):
            if key[1:] not in [row[:2] for row in self.world.house(key[0]).askeds()]:
                del self.noes[key]

    def look_at_talks(self):
        """Of a call one talk stands at its asker at most, the first; the changes of both ends go in one order."""
        stands = {}
        for talk, asker, asked in self.world.talks():
            if asker != "none":
                self.first.setdefault(talk[0], talk)
            if asker == "stands":
                self.test.assertNotIn(talk[0], stands)
                self.test.assertEqual(self.first[talk[0]], talk)
                self.test.assertNotIn(talk[0], self.given)
                stands[talk[0]] = talk
            if (asker, asked) == ("stands", "stands"):
                short, long = sorted(self.drawn.changes(talk), key=len)
                self.test.assertEqual(long[:len(short)], short)
                self.test.assertLessEqual(len(long) - len(short), 1)


class Drawn(unittest.TestCase):
    def settled(self, drawn):
        """Behind 200 calm rounds a world is settled, nothing hangs, and of each call one talk at most stands."""
        world = drawn.world
        world.do(("calm", 200))
        self.assertIs(world.is_settled(), True)
        self.assertEqual(world.hanging(), [])
        talks = standing(world)
        self.assertEqual([row[0] for row in world.talks()], talks)
        self.assertEqual(len({talk[0] for talk in talks}), len(talks))
        for talk in talks:
            first, second = drawn.changes(talk)
            self.assertEqual(first, second)
        return talks

    def test_behind_200_calm_rounds(self):
        counts = []
        for drawn, rates, steps in drawn_worlds(21, 160, (30, 100, 300, 500)):
            watch = Watch(self, drawn)
            for step in range(steps):
                watch.step(rates)
            talks = self.settled(drawn)
            self.assertFalse({talk[0] for talk in talks} & watch.given)
            counts.append(len(talks))
        self.assertGreater(len([many for many in counts if many]), 20)

    def test_a_call_taken_nowhere_leaves_no_talk(self):
        for drawn, rates, steps in drawn_worlds(22, 40, (60,)):
            for step in range(steps):
                drawn.step({word: rates[word] for word in rates if word != "take"})
            self.assertEqual(self.settled(drawn), [])

    def test_a_call_given_up_ahead_of_any_taking_heard_leaves_no_talk(self):
        chance = random.Random(23)
        heard = 0
        for run in range(150):
            drawn = DrawnWorld(chance)
            drawn.do(("call", "ann", chance.choice(("xan", "yve", "zoe")), "hub", "hello"))
            for step in range(chance.randint(0, 40)):
                drawn.step({"take": 3, "carry": 20, "double": 2, "lose": 1, "beat": 3})
            if drawn.world.device("ann").talks() or not drawn.world.device("ann").calls():
                continue
            drawn.do(("give", "ann", 0))
            for step in range(chance.randint(0, 60)):
                drawn.step({"take": 3, "carry": 20, "double": 2, "lose": 1, "beat": 3})
            heard += bool(drawn.world.talks())
            self.assertEqual(self.settled(drawn), [])
        self.assertGreater(heard, 5)

    def test_all_letters_lost(self):
        left = 0
        for drawn, rates, steps in drawn_worlds(24, 80, (30, 100, 300)):
            for step in range(steps):
                drawn.step(rates)
            left += len(standing(drawn.world))
            # A ring of 120 beats, its Askers' 16, its own 16; or a talk's 96 and its bye's 16.
            for beat in range(160):
                drawn.world.play([("lose", number) for number, letter in drawn.world.letters()] + [("beat",)])
            drawn.world.play([("lose", number) for number, letter in drawn.world.letters()])
            self.assertEqual((drawn.world.kept(), drawn.world.talks(), drawn.world.do(("beat",))), (0, [], []))
        self.assertGreater(left, 10)

    def test_one_end_alone_stands_no_longer_than_told(self):
        """All letters are lost from some time on: an asker's end stands for 48 beats at most, an asked one's for 96."""
        for drawn, rates, steps in drawn_worlds(25, 40, (100, 200)):
            for step in range(steps):
                drawn.step(rates)
            for beat in range(1, 97):
                drawn.world.play([("lose", number) for number, letter in drawn.world.letters()] + [("beat",)])
                for talk, asker, asked in drawn.world.talks():
                    self.assertFalse(asker in LIVE and beat >= 48)
                    self.assertFalse(asked == "stands" and beat >= 96)
                    self.assertFalse(asked == "waits" and beat >= 16)

    def test_late_copies_bring_no_talk(self):
        chance = random.Random(26)
        rung = 0
        for run in range(100):
            drawn = DrawnWorld(chance)
            hoard = self.hoarded(drawn, RATES[run % 2], chance.choice((60, 150)))
            world = drawn.world
            talks = {talk: drawn.changes(talk) for talk in standing(world)}
            ahead = len(world.talks())
            for number in chance.sample(hoard, len(hoard)):
                world.do(("carry", number))
                # Whatever rings is taken.
                self.carry_but(world, [other for other in hoard if other != number], False)
                for name in drawn.names:
                    for call in world.device(name).rings():
                        world.do(("take", name, call))
                        rung += 1
                if chance.random() < 0.3:
                    self.carry_but(world, hoard, True)
            self.assertGreaterEqual(len(world.talks()), ahead)
            world.do(("calm", 200))
            self.assertEqual({talk: drawn.changes(talk) for talk in standing(world)}, talks)
            self.assertTrue(world.is_settled())
        self.assertGreater(rung, 20)

    def carry_but(self, world, hoard, beat):
        """All letters come but those hoarded, then, maybe, a beat."""
        while True:
            numbers = [number for number, letter in world.letters() if number not in hoard]
            if not numbers:
                break
            world.do(("carry", numbers[0]))
        if beat:
            world.do(("beat",))

    def hoarded(self, drawn, rates, steps):
        """Drawn deeds, then 190 beats in which all letters come but some copies, whose numbers are told."""
        hoard = []
        for step in range(steps):
            deed = drawn.deed({word: rates[word] for word in rates if word not in ("double", "lose")})
            if deed and not (deed[0] == "carry" and deed[1] in hoard):
                drawn.do(deed)
            letters = [number for number, letter in drawn.world.letters() if number not in hoard]
            if letters and drawn.chance.random() < 0.15:
                hoard += drawn.world.do(("double", drawn.chance.choice(letters)))
        for beat in range(190):
            self.carry_but(drawn.world, hoard, True)
        self.carry_but(drawn.world, hoard, False)
        return hoard


class Ends:
    """The ends of all askings of a drawn world, at the asker and at the asked one, as far as they were seen."""

    def __init__(self, test, drawn):
        self.test, self.drawn = test, drawn
        self.askers, self.askeds, self.there, self.anew = {}, {}, set(), set()

    def look(self):
        """An end that is there never turns; an asking that is kept anew behind its keeping is marked."""
        world, there = self.drawn.world, set()
        for keeper in [world.device(name) for name in world.devices()] + [world.house(name) for name, stays in world.houses()]:
            for number, asking in keeper.post.sent.items():
                self.see(self.askers, (keeper.name(), asking.letter[2], number), asking.machine.end())
            for (sender, number), answering in keeper.post.came.items():
                key = (sender, keeper.name(), number)
                if key in self.askeds and key not in self.there:
                    self.anew.add(key)
                there.add(key)
                if key not in self.anew:
                    self.see(self.askeds, key, answering.machine.end())
        self.there = there

    def see(self, ends, key, end):
        """An end is seen."""
        if ends.get(key) is not None:
            self.test.assertEqual(end, ends[key])
        ends[key] = end

    def asker_end(self, key):
        """The asker's end; one that went without an end that was seen came late in that very beat."""
        return self.askers[key] or "late"


class BothEnds(unittest.TestCase):
    def seen(self, seed, rates, many):
        """The ends of drawn worlds told deeds by these rates, behind their calm."""
        chance = random.Random(seed)
        for run in range(many):
            drawn = DrawnWorld(chance)
            ends = Ends(self, drawn)
            for step in range(chance.choice((60, 150))):
                drawn.step(rates)
                ends.look()
            for turn in range(200):
                drawn.world.do(("calm", 1))
                ends.look()
            yield ends

    def test_where_no_letter_is_lost_both_ends_are_the_same_or_the_askers_is_late(self):
        found = set()
        for rates in RATES[:2]:
            for ends in self.seen(27, {word: rates[word] for word in rates if word not in ("lose", "double")}, 30):
                for key in ends.askers:
                    if key in ends.askeds and key not in ends.anew:
                        pair = (ends.asker_end(key), ends.askeds[key])
                        self.assertTrue(pair[0] in (pair[1], "late"), (key, pair))
                        found.add(pair)
        self.assertLessEqual({(end, end) for end in ("taken", "no", "done")}, found)

    def test_each_asking_has_one_end_whatever_is_lost(self):
        askers, askeds = set(), set()
        for ends in self.seen(28, RATES[2], 40):
            askers |= {ends.asker_end(key) for key in ends.askers}
            askeds |= set(ends.askeds.values())
        self.assertEqual(askers, {"taken", "no", "done", "late"})
        self.assertEqual(askeds, {"taken", "no", "done"})


class Houses(unittest.TestCase):
    def test_all_groups_ring_one_behind_the_other(self):
        devices = ["ann", "bob", "cat", "dan", "eve"]
        world = World(devices, [("hub", True), ("inn", False)])
        for weight, name in enumerate(devices[1:4]):
            world.do(("place", "inn", "yve", ("device", name), weight, 900))
        world.play([("place", "hub", "zoe", ("person", "yve", "inn"), 3, 900), ("place", "hub", "zoe", ("device", "eve"), 1, 900)])
        world.do(("call", "ann", "zoe", "hub", "hello"))
        rang = []
        for turn in range(160):
            world.do(("calm", 1))
            now = [name for name in devices if world.device(name).rings()]
            self.assertLessEqual(len(now), 1)
            rang += [name for name in now if name not in rang]
        self.assertEqual(rang, ["dan", "cat", "bob", "eve"])
        self.assertTrue(world.is_settled())

    def test_letters_within_a_talk_go_by_just_the_houses_that_stay_and_back(self):
        for stays in ((True, True, True), (True, False, True), (False, True, False), (False, False, False)):
            houses = list(zip(("hub", "inn", "joy"), stays))
            world = World(["ann", "bob"], houses)
            world.play([
                ("place", "hub", "xan", ("person", "yve", "inn"), 1, 900), ("place", "inn", "yve", ("person", "zoe", "joy"), 1, 900),
                ("place", "joy", "zoe", ("device", "bob"), 1, 900), ("call", "ann", "xan", "hub", "hello"), ("calm", 1),
                ("take", "bob", ("ann", 0)), ("calm", 20),
            ])
            talk = (("ann", 0), "bob", 0)
            route = ["ann"] + [name for name, stay in houses if stay] + ["bob"]
            for deed, way in (
                (("change", "ann", talk, "warm"), route), (("change", "bob", talk, "cool"), route[::-1]),
                (("end", "bob", talk), route[::-1]),
            ):
                told, gone = world.do(deed), []
                while told:
                    letter = dict(world.letters())[told[0]]
                    gone.append((letter[0], letter[1], letter[2]))
                    told = world.do(("carry", told[0]))
                there = [("ask", *pair) for pair in zip(way, way[1:])]
                back = [("answer", *pair) for pair in zip(way[::-1], way[-2::-1])]
                self.assertEqual(gone, there + back)
            self.assertEqual(world.talks(), [(talk, "over", "over")])

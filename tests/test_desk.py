"""A desk: each row and its answer, each refusal in its order, and nothing changed by one."""

import unittest

from ringingcalls.desk import Desk
from ringingcalls.errors import (
    Busy, NoCall, NoDeed, NoLetter, NoName, NoNumber, NoRank, NoRing, NoRow, NoTalk, NoText, TooMany,
)
from ringingcalls.texts import read_weaving, show_letter, show_weaving
from ringingcalls.worlds import World
from tests.helper import ODD, drawn_worlds

RINGING = (
    "device ann; device bob; device cat; house hub; place hub zoe bob 5 900; place hub zoe cat 5 900; "
    "call ann zoe hub hello; calm 1"
)
TALKING = RINGING + "; take bob ann/0; calm 20"
ROWS = ["letters one", "talks one", "hanging one", "kept one", "beats one", "names"]


def desk(*texts):
    """A desk with Worlds one, two, .. of these texts."""
    made = Desk()
    for name, text in zip(("one", "two", "three", "four", "five", "six", "seven", "eight"), texts):
        made.say(f"world {name} {text}")
    return made


class Case(unittest.TestCase):
    def refused(self, error, made, told, **fields):
        """A row is refused, with these fields, and changes nothing."""
        ahead = self.shown(made)
        with self.assertRaises(error, msg=repr(told)) as caught:
            made.say(told)
        for field, worth in fields.items():
            self.assertEqual(getattr(caught.exception, field), worth, told)
        self.assertEqual(self.shown(made), ahead)

    def shown(self, made):
        """What a desk tells of all its Worlds."""
        names = made.say("names")
        found = [len(made), names]
        for name in names.split(" ") if names != "-" else []:
            found += [made.say(f"{word} {name}") for word in ("letters", "talks", "hanging", "kept", "beats")]
        return found


class Rows(Case):
    def test_a_new_one(self):
        made = Desk()
        self.assertEqual((len(made), made.say("names")), (0, "-"))

    def test_world_names_drop(self):
        made = Desk()
        self.assertEqual(made.say(row="world two device ann"), "ok")
        self.assertEqual((made.say("names"), len(made)), ("two", 1))
        self.assertEqual(made.say("world one house hub passing; beat; beat"), "ok")
        self.assertEqual((made.say("names"), len(made)), ("one two", 2))
        self.assertEqual((made.say("beats one"), made.say("beats two")), ("2", "0"))
        self.assertEqual(made.say("drop two"), "ok")
        self.assertEqual((made.say("names"), len(made)), ("one", 1))
        self.assertEqual(made.say("drop one"), "ok")
        self.assertEqual((made.say("names"), len(made)), ("-", 0))

    def test_a_world_in_the_stead_of_one_there(self):
        made = desk("device ann; beat")
        self.assertEqual(made.say("world one device ann; beat; beat; beat"), "ok")
        self.assertEqual((len(made), made.say("beats one")), (1, "3"))

    def test_nothing_is_a_dash(self):
        made = desk("device ann")
        self.assertEqual([made.say(row) for row in ROWS], ["-", "-", "-", "0", "0", "one"])
        self.assertEqual(made.say("do one beat"), "-")

    def test_do_and_letters(self):
        made = desk("device ann; device bob; house hub")
        self.assertEqual(made.say("do one place hub zoe bob 5 900"), "-")
        self.assertEqual(made.say("do one call ann zoe hub hello"), "0")
        self.assertEqual(made.say("letters one"), "0 ann hub ask 0 ring ann/0 zoe 9 - hello")
        self.assertEqual(made.say("do one carry 0"), "1 2")
        self.assertEqual(
            made.say("letters one"), "1 hub ann answer 0 rings hub - ; 2 hub bob ask 0 ring ann/0 zoe 8 hub hello",
        )
        self.assertEqual(made.say("kept one"), "5")
        self.assertEqual(made.say("do one calm 1"), "3 4")
        self.assertEqual(made.say("beats one"), "1")

    def test_talks_hanging_and_changes(self):
        made = desk(RINGING)
        made.say("do one take bob ann/0")
        self.assertEqual((made.say("talks one"), made.say("hanging one")), ("ann/0/bob/0 none waits", "ann/0/bob/0"))
        made.say("do one take cat ann/0")
        self.assertEqual(made.say("talks one"), "ann/0/bob/0 none waits ; ann/0/cat/0 none waits")
        self.assertEqual(made.say("hanging one"), "ann/0/bob/0 ann/0/cat/0")
        made.say("do one calm 20")
        self.assertEqual((made.say("talks one"), made.say("hanging one")), ("ann/0/bob/0 stands stands", "-"))
        self.assertEqual(made.say("changes one ann ann/0/bob/0"), "hello")
        made.say("do one change ann ann/0/bob/0 warm")
        made.say("do one calm 1")
        self.assertEqual(made.say("changes one ann ann/0/bob/0"), "hello warm")
        self.assertEqual(made.say("changes one bob ann/0/bob/0"), "hello warm")

    def test_worlds_go_by_themselves(self):
        made = desk(RINGING, RINGING)
        made.say("do one take bob ann/0")
        self.assertEqual((made.say("talks one"), made.say("talks two")), ("ann/0/bob/0 none waits", "-"))
        other = Desk()
        self.assertEqual(len(other), 0)

    def test_drawn_worlds(self):
        for drawn, rates, steps in drawn_worlds(51, 12, (40, 120)):
            for step in range(steps):
                drawn.step(rates)
            world = drawn.world
            made = desk(show_weaving(list(drawn.names), drawn.houses, drawn.deeds).replace("\n", "; "))
            letters = [f"{number} {show_letter(letter)}" for number, letter in world.letters()]
            self.assertEqual(made.say("letters one"), " ; ".join(letters) or "-")
            self.assertEqual(made.say("kept one"), str(world.kept()))
            self.assertEqual(made.say("beats one"), str(world.beats()))
            told = world.do(("calm", 3))
            self.assertEqual(made.say("do one calm 3"), " ".join(map(str, told)) or "-")
            self.assertEqual(made.say("talks one").count(";"), max(len(world.talks()) - 1, 0))
            for talk, asker, asked in world.talks():
                word = f"{talk[0][0]}/{talk[0][1]}/{talk[1]}/{talk[2]}"
                self.assertIn(f"{word} {asker} {asked}", made.say("talks one"))
                if asker != "none":
                    changes = world.device(talk[0][0]).talks()[talk].changes()
                    self.assertEqual(made.say(f"changes one {talk[0][0]} {word}"), " ".join(changes))


class Refused(Case):
    def test_no_row(self):
        made = desk(TALKING)
        for row in [
            "", " ", "name", "names ", " names", "names one", "Names", "drop", "drop ", "drop one two", "drop  one", "drop one ",
            "world", "world ", "world one", "world  device ann", "world one\n device ann", "world one device ann\ndevice bob",
            "worlds one device ann", "do", "do one", "do one ", "do  one beat", "do one  beat", "do one beat ", "do one beat\n",
            "do one call ann  zoe hub hello", "letters", "letters one one", "talks", "hanging one two", "kept", "kept one ",
            "beats", "beats one\n", "beats one one", "changes", "changes one", "changes one ann", "changes one ann ann/0/bob/0 x",
            "changes one Ann ann/0/bob/0", "changes one ann ann/0", "changes one ann ann/0/bob/00", "changes one ann ann/0/ann/0",
            "changes one ann -", "changes one  ann/0/bob/0", "changes Nobody Ann ann/0/bob/0", "changes nobody ann ann/0",
            "beat one", "calm one 5", "ok", "-",
        ]:
            self.refused(NoRow, made, row)
        for thing in ODD + [0, b"names", ["names"], ("names",)]:
            if not isinstance(thing, str):
                self.refused(NoRow, made, thing)

    def test_no_name(self):
        made = desk(TALKING)
        for name in ("One", "1", "o/e", "ninelette", "one;", "-"):
            for row in (
                f"drop {name}", f"do {name} bad", f"letters {name}", f"talks {name}", f"hanging {name}", f"kept {name}",
                f"beats {name}", f"changes {name} dan ann/7/bob/0", f"world {name} bad", f"world {name} ", f"world {name} device ann",
            ):
                self.refused(NoName, made, row, thing=name)
        for row in (
            "drop two", "do two bad", "letters two", "talks two", "hanging two", "kept two", "beats two",
            "changes two dan ann/0/bob/0",
        ):
            self.refused(NoName, made, row, thing="two")

    def test_no_text(self):
        made = desk(TALKING)
        for row, at in (
            ("world one ", 0), ("world two ", 0), ("world two device Ann", 0), ("world two device ann;device bob", 0),
            ("world two device ann; ", 1), ("world two device ann;  beat", 1), ("world two  device ann", 0),
            ("world two device ann ; beat", 0), ("world two device ann; bad; beat", 1), ("world two beat; device ann", 1),
            ("world two device ann; beat; house hub", 2), ("world two beat", None), ("world two device ann; house ann; carry 0", None),
            ("world one device ann; device ann", None), ("do one bad", 0), ("do one beat 0", 0), ("do one calm 0", 0),
            ("do one device ann", 0), ("do one beat; beat", 0), ("do one carry 00", 0), ("do one call ann zoe hub", 0),
        ):
            self.refused(NoText, made, row, row=at)

    def test_what_the_world_refuses(self):
        made = desk(TALKING)
        for row, error in (
            ("do one carry 999", NoLetter), ("do one give ann 5", NoCall), ("do one take bob ann/5", NoRing),
            ("do one end cat ann/0/bob/0", NoTalk), ("do one call dan zoe hub hello", NoDeed),
            ("do one call ann zoe inn hello", NoDeed), ("do one here ann zoe hub 10 5", NoNumber),
            ("do one place hub zoe bob 5 1000", NoNumber), ("do one place ann zoe bob 5 10", NoDeed),
            ("world one device ann; carry 0", NoLetter), ("world two device ann; house hub; call ann zoe hub hello; calm 1; give ann 1", NoCall),
            ("world two device ann; house hub; place hub zoe bob 10 5", NoNumber), ("world two device ann; give bob 0", NoDeed),
        ):
            self.refused(error, made, row)
        made.say("world two " + RINGING)
        self.refused(NoRank, made, "do two refuse bob ann/0 700", thing=700)
        made.say("do one change ann ann/0/bob/0 warm")
        self.refused(Busy, made, "do one change ann ann/0/bob/0 cool")

    def test_changes_of_no_device_or_talk(self):
        made = desk(TALKING)
        talk = (("ann", 0), "bob", 0)
        self.refused(NoName, made, "changes one dan ann/0/bob/0", thing="dan")
        self.refused(NoName, made, "changes one hub ann/0/bob/0", thing="hub")
        self.refused(NoName, made, "changes one dan ann/7/bob/0", thing="dan")
        self.refused(NoTalk, made, "changes one cat ann/0/bob/0", thing=talk)
        self.refused(NoTalk, made, "changes one ann ann/1/bob/0", thing=(("ann", 1), "bob", 0))

    def test_too_many_letters_in_a_calm(self):
        made = desk("device ann; house hub; call ann zoe hub hello")
        for copy in range(2000):
            made.say("do one double 0")
        self.refused(TooMany, made, "do one calm 1", many=2001)

    def test_a_ninth_world(self):
        made = desk(*["device ann"] * 8)
        self.assertEqual(len(made), 8)
        self.refused(TooMany, made, "world nine device ann; beat", many=9)
        # Each other refusal goes first.
        self.refused(NoRow, made, "world nine")
        self.refused(NoName, made, "world Nine device ann")
        self.refused(NoText, made, "world nine device", row=0)
        self.refused(NoLetter, made, "world nine device ann; carry 0", thing=0)
        self.assertEqual(made.say("world eight device bob; beat"), "ok")
        self.assertEqual((len(made), made.say("beats eight")), (8, "1"))
        made.say("drop one")
        self.assertEqual(made.say("world nine device ann"), "ok")
        self.assertEqual(made.say("names"), "eight five four nine seven six three two")

    def test_a_refused_world_leaves_the_one_there(self):
        made = desk("device ann; beat")
        for row in ("world one device", "world one device ann; carry 0", "world one beat"):
            with self.assertRaises((NoText, NoLetter)):
                made.say(row)
        self.assertEqual(made.say("beats one"), "1")

    def test_what_can_be_read_is_refused_by_the_world_alone(self):
        made = desk("device ann; house hub")
        self.assertEqual(made.say("do one place hub zoe yve@inn 9 999"), "-")
        self.refused(NoNumber, made, "do one place hub zoe yve@inn 10 999", thing=10)
        self.refused(NoText, made, "do one place hub zoe yve@ 10 999", row=0)

    def test_a_text_is_a_weaving(self):
        devices, houses, deeds = read_weaving(TALKING.replace("; ", "\n"))
        world = World(devices, houses)
        world.play(deeds)
        self.assertEqual(desk(TALKING).say("kept one"), str(world.kept()))

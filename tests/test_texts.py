"""Texts: letters and weavings, written as told and read back, and all else refused."""

import random
import unittest

from ringingcalls.errors import NoText
from ringingcalls.letters import is_letter
from ringingcalls.texts import read_letter, read_weaving, show_letter, show_weaving
from ringingcalls.worlds import World
from tests.helper import CALL, EIGHT, LETTERS, ODD, answer, ask, drawn_worlds, held, ring, sure

TALK = (("ann", 3), "bob", 2)
WRITTEN = {
    "ann hub ask 0 ring ann/0 zoe 9 - hello": ring("ann", "hub", 0),
    "hub den ask 7 ring cat/12 zoe 0 hub,inn hello": ring("hub", "den", 7, ("cat", 12), "zoe", 0, ("hub", "inn")),
    "ann hub ask 1 stop 0": ask("ann", "hub", 1, "stop", 0),
    "ann hub ask 2 bye ann/3/bob/2 1 -": ask("ann", "hub", 2, "bye", TALK, 1, ()),
    "ann hub ask 2 bye ann/3/bob/2 4 den,bob": ask("ann", "hub", 2, "bye", TALK, 4, ("den", "bob")),
    "bob hub ask 3 again ann/3/bob/2 9 hub warm": ask("bob", "hub", 3, "again", TALK, 9, ("hub",), "warm"),
    "bob hub ask 4 here zoe 9 999": ask("bob", "hub", 4, "here", "zoe", 9, 999),
    "hub ann answer 0 rings bob -": answer("hub", "ann", 0, "rings", "bob", ()),
    "hub ann answer 0 rings bob a,b,c,d,e,f,g,h": answer("hub", "ann", 0, "rings", "bob", EIGHT),
    "hub ann answer 1 taken bob 5 hub": answer("hub", "ann", 1, "taken", "bob", 5, ("hub",)),
    "hub ann answer 2 no 487": answer("hub", "ann", 2, "no", 487),
    "hub ann answer 3 done": answer("hub", "ann", 3, "done"),
    "ann hub sure 0": sure("ann", "hub", 0),
    "ann hub held ann/3/bob/2 -": held("ann", "hub", TALK),
    "ann hub held ann/3/bob/2 den,bob": held("ann", "hub", TALK, "den", "bob"),
}
DEVICES, HOUSES = ["bob", "ann"], [("inn", True), ("hub", False)]
HEAD = ["device bob", "device ann", "house inn", "house hub passing"]
DEED_ROWS = {
    "call ann zoe hub hello": ("call", "ann", "zoe", "hub", "hello"),
    "give ann 0": ("give", "ann", 0),
    "take bob ann/0": ("take", "bob", CALL),
    "refuse bob ann/0 486": ("refuse", "bob", CALL, 486),
    "refuse bob ann/0 0": ("refuse", "bob", CALL, 0),
    "end ann ann/3/bob/2": ("end", "ann", TALK),
    "change ann ann/3/bob/2 warm": ("change", "ann", TALK, "warm"),
    "here bob zoe hub 5 60": ("here", "bob", "zoe", "hub", 5, 60),
    "here bob zoe hub 999999999 123456789": ("here", "bob", "zoe", "hub", 999999999, 123456789),
    "place hub zoe bob 5 60": ("place", "hub", "zoe", ("device", "bob"), 5, 60),
    "place hub zoe yve@inn 0 0": ("place", "hub", "zoe", ("person", "yve", "inn"), 0, 0),
    "carry 0": ("carry", 0),
    "lose 12": ("lose", 12),
    "double 999999999": ("double", 999999999),
    "beat": ("beat",),
    "calm 5": ("calm", 5),
    "calm 300": ("calm", 300),
    "calm 1": ("calm", 1),
}
NO_DEED_ROWS = [
    "", " ", "beat ", " beat", "beats", "Beat", "beat 0", "call ann zoe hub", "call ann zoe hub hello hello",
    "call ann zoe  hub hello", "call Ann zoe hub hello", "call ann zoe hub 5", "give ann", "give ann x", "give ann -1",
    "give ann 00", "give ann 01", "give ann 1234567890", "give ann +1", "give ann 1.", "take bob ann", "take bob ann/",
    "take bob /0", "take bob ann/00", "take bob ann/0/", "take bob ann-0", "refuse bob ann/0", "refuse bob ann/0 x",
    "end ann ann/0", "end ann ann/0/bob", "end ann ann/0/ann/0", "end ann ann/0/bob/0/", "end ann ann/0/bob/01",
    "change ann ann/0/bob/0", "change ann ann/0/bob/0 Warm", "here bob zoe hub 5", "here bob zoe hub 5 -",
    "place hub zoe bob 5", "place hub zoe bob@ 5 60", "place hub zoe @bob 5 60", "place hub zoe a@b@c 5 60",
    "place hub zoe - 5 60", "carry", "carry x", "carry 0 0", "calm", "calm 0", "calm 301", "calm 05", "device", "device Bob",
    "device bob ann", "device bob passing", "device  bob", "device bob ", "house", "house Hub", "house hub stays",
    "house hub passing passing", "house hub  passing", "house hub ", "houses hub", "carry 1e3", "calm 5\t",
]


def mutants(text, chance, many):
    """Texts with a sign put in, left out or otherwise, with words or rows turned about or doubled."""
    signs = " \nabz0159/,-@X"
    found = []
    for once in range(many):
        at, sign = chance.randrange(len(text) + 1), chance.choice(signs)
        found += [text[:at] + sign + text[at:], text[:at] + text[at + 1:], text[:at] + sign + text[at + 1:]]
        for between in (" ", "\n"):
            parts = text.split(between)
            first, second = chance.randrange(len(parts)), chance.randrange(len(parts))
            found.append(between.join(parts[:first] + parts[first + 1:]))
            found.append(between.join(parts[:first] + [parts[second]] + parts[first:]))
            parts[first], parts[second] = parts[second], parts[first]
            found.append(between.join(parts))
    return found + [" " + text, text + " ", "\n" + text, text + "\n", text.upper(), text + text]


class Case(unittest.TestCase):
    def no_text(self, read, text, row):
        """A text is refused with this row."""
        with self.assertRaises(NoText, msg=repr(text)) as caught:
            read(text)
        self.assertIs(caught.exception.row, row, repr(text))

    def tuples(self, thing):
        """Whether there are only tuples, texts and numbers in it."""
        if isinstance(thing, tuple):
            return all(self.tuples(inner) for inner in thing)
        return type(thing) in (int, str)


class Letters(Case):
    def test_written_as_told_and_read_back(self):
        for text, letter in WRITTEN.items():
            self.assertTrue(is_letter(letter))
            self.assertEqual(show_letter(letter), text)
            self.assertEqual(read_letter(text), letter)
            self.assertTrue(self.tuples(read_letter(text)))
            self.assertEqual(read_letter(text=show_letter(letter=letter)), letter)

    def test_all_samples(self):
        for letter in LETTERS:
            self.assertEqual(read_letter(show_letter(letter)), letter)

    def test_numbers_of_one_to_nine_figures(self):
        for number in [0] + [int("123456789"[:many]) for many in range(1, 10)] + [10 ** many for many in range(9)]:
            for letter in (
                sure("ann", "bob", number), ask("ann", "bob", number, "stop", number), answer("ann", "bob", number, "done"),
                ask("ann", "bob", 0, "bye", (("ann", number), "bob", number), number + 1 if number < 999999999 else 1, ()),
                ring("ann", "bob", 1, ("cat", number)), answer("ann", "bob", 1, "taken", "cat", number, ()),
            ):
                self.assertEqual(read_letter(show_letter(letter)), letter)

    def test_paths_and_ways_of_none_up_to_eight(self):
        for many in range(9):
            path = EIGHT[:many]
            for letter in (
                ring("ann", "bob", 0, path=path), answer("ann", "bob", 0, "rings", "cat", path), held("ann", "bob", TALK, *path),
                answer("ann", "bob", 0, "taken", "cat", 0, path), ask("ann", "bob", 0, "bye", TALK, 1, path),
                ask("ann", "bob", 0, "again", TALK, 1, path, "warm"),
            ):
                text = show_letter(letter)
                self.assertIn(" " + (",".join(path) or "-"), text)
                self.assertEqual(read_letter(text), letter)

    def test_refused(self):
        for text in [
            "", " ", "ann", "ann hub", "ann hub ask", "ann hub ask 0", "ann hub ask 0 ring", "ann ann sure 0", "ann hub sure",
            "ann hub sure 00", "ann hub sure 01", "ann hub sure 1234567890", "ann hub sure -1", "ann hub sure +1",
            "ann hub sure 0 ", " ann hub sure 0", "ann  hub sure 0", "ann hub sure 0\n", "ann hub sure x", "Ann hub sure 0",
            "ann hub Sure 0", "ann hub hold 0", "ann hub ask 0 stop 00", "ann hub ask 0 stop", "ann hub ask 0 stop 0 0",
            "ann hub ask 0 ring ann/0 zoe 10 - hello", "ann hub ask 0 ring ann/0 zoe 9 a,a hello",
            "ann hub ask 0 ring ann/0 zoe 9 a,b,c,d,e,f,g,h,i hello", "ann hub ask 0 ring ann/0 zoe 9  hello",
            "ann hub ask 0 ring ann/0 zoe 9 , hello", "ann hub ask 0 ring ann/0 zoe 9 a, hello",
            "ann hub ask 0 ring ann/0 zoe 9 -,a hello", "ann hub ask 0 ring ann/0 zoe 9 -", "ann hub ask 0 bye ann/0/ann/0 1 -",
            "ann hub ask 0 bye ann/0/bob/0 0 -", "ann hub ask 0 here zoe 10 0", "ann hub ask 0 here zoe 9 1000",
            "ann hub ask 0 done", "ann hub answer 0 stop 0", "ann hub answer 0 no 299", "ann hub answer 0 no 700",
            "ann hub answer 0 done done", "ann hub answer 0", "ann hub answer done", "ann hub held ann/0/bob/0",
            "sure ann hub 0", "ann hub 0 sure", "device ann",
        ]:
            self.no_text(read_letter, text, 0)
        for thing in ODD + [0, ("ann",), b"ann hub sure 0", ["ann hub sure 0"], sure("ann", "hub", 0)]:
            self.no_text(read_letter, thing, 0)

    def test_what_is_read_is_so_written(self):
        chance = random.Random(41)
        for text in WRITTEN:
            for other in mutants(text, chance, 60):
                try:
                    letter = read_letter(other)
                except NoText as error:
                    self.assertEqual(error.row, 0)
                    continue
                self.assertTrue(is_letter(letter), other)
                self.assertEqual(show_letter(letter), other)

    def test_letters_of_drawn_worlds(self):
        letters = set()
        for drawn, rates, steps in drawn_worlds(42, 24, (100, 300)):
            for step in range(steps):
                drawn.step(rates)
            letters |= set(drawn.laid.values())
        self.assertEqual(len({letter[4] for letter in letters if letter[0] == "ask"}), 5)
        for letter in letters:
            self.assertEqual(read_letter(show_letter(letter)), letter)


class Weavings(Case):
    def test_written_as_told_and_read_back(self):
        text = "\n".join(HEAD + list(DEED_ROWS))
        deeds = list(DEED_ROWS.values())
        self.assertEqual(show_weaving(DEVICES, HOUSES, deeds), text)
        self.assertEqual(show_weaving(deeds=deeds, houses=HOUSES, devices=DEVICES), text)
        told = read_weaving(text)
        self.assertIsInstance(told, tuple)
        self.assertEqual(told, (DEVICES, HOUSES, deeds))
        self.assertEqual(told, read_weaving(text=text))
        for deed in told[2]:
            self.assertTrue(self.tuples(deed))
        self.assertEqual(World(told[0], told[1]).devices(), ["ann", "bob"])

    def test_each_deed_alone(self):
        for row, deed in DEED_ROWS.items():
            self.assertEqual(read_weaving("device ann\n" + row), (["ann"], [], [deed]))
            self.assertEqual(show_weaving(["ann"], [], [deed]), "device ann\n" + row)

    def test_devices_or_houses_alone_and_no_deeds(self):
        for text, weaving in (
            ("device ann", (["ann"], [], [])), ("house hub", ([], [("hub", True)], [])),
            ("house hub passing", ([], [("hub", False)], [])), ("house passing\nbeat", ([], [("passing", True)], [("beat",)])),
            ("house passing passing", ([], [("passing", False)], [])), ("device device\nhouse house", (["device"], [("house", True)], [])),
        ):
            self.assertEqual(read_weaving(text), weaving)
            self.assertEqual(show_weaving(*weaving), text)

    def test_new_lists_each_time(self):
        text = "device ann\nhouse hub\nbeat"
        for at in range(3):
            read_weaving(text)[at].clear()
        self.assertEqual(read_weaving(text), (["ann"], [("hub", True)], [("beat",)]))
        devices, houses, deeds = list(DEVICES), list(HOUSES), [("beat",)]
        show_weaving(devices, houses, deeds)
        self.assertEqual((devices, houses, deeds), (DEVICES, HOUSES, [("beat",)]))

    def test_the_first_row_that_is_none(self):
        for bad in NO_DEED_ROWS:
            self.no_text(read_weaving, bad, 0)
            self.no_text(read_weaving, "\n".join(["device ann", bad]), 1)
            self.no_text(read_weaving, "\n".join(HEAD + ["beat", bad, "beat", bad]), 5)
        self.no_text(read_weaving, "", 0)
        self.no_text(read_weaving, "device ann\n", 1)
        self.no_text(read_weaving, "\ndevice ann", 0)

    def test_rows_where_they_can_not_stand(self):
        for rows, at in (
            (["house hub", "device ann"], 1), (["device ann", "beat", "device bob"], 2), (["device ann", "beat", "house hub"], 2),
            (["beat", "device ann"], 1), (["device ann", "house hub", "device bob", "bad"], 2),
            (["device ann", "bad", "beat", "device bob"], 1), (["house hub", "device ann", "device ann"], 1),
        ):
            self.no_text(read_weaving, "\n".join(rows), at)

    def test_rows_that_make_no_world(self):
        for rows in (
            ["beat"], ["carry 0", "beat"], ["device ann", "device ann"], ["house hub", "house hub passing"],
            ["device ann", "house ann"], ["device ann", "device bob", "house hub", "house bob", "beat"],
        ):
            self.no_text(read_weaving, "\n".join(rows), None)
        self.no_text(read_weaving, "device ann\ndevice ann\nbad", 2)

    def test_what_is_no_text(self):
        for thing in ODD + [0, b"device ann", ["device ann"], ("device ann",), (["ann"], [], [])]:
            if not isinstance(thing, str):
                self.no_text(read_weaving, thing, 0)

    def test_what_is_read_is_so_written(self):
        chance = random.Random(43)
        rows = HEAD + list(DEED_ROWS)
        read = 0
        for once in range(60):
            text = "\n".join(HEAD[:chance.randint(1, 4)] + chance.sample(rows[4:], 4))
            for other in mutants(text, chance, 6):
                try:
                    weaving = read_weaving(other)
                except NoText as error:
                    self.look_at_row(other, error.row)
                    continue
                read += 1
                self.assertEqual(show_weaving(*weaving), other)
        self.assertGreater(read, 100)

    def look_at_row(self, text, at):
        """All rows ahead of the one that is told can stand so, and with it they can't; or they make no World."""
        rows = text.split("\n")
        ahead = rows if at is None else rows[:at]
        words = [row.split(" ")[0] for row in ahead]
        order = ["deed" if word not in ("device", "house") else word for word in words]
        self.assertEqual(order, sorted(order, key=["device", "house", "deed"].index))
        if at is None:
            names = [row.split(" ")[1] for row in ahead if row.split(" ")[0] in ("device", "house")]
            self.assertTrue(len(set(names)) < len(names) or not names)
        else:
            self.assertLess(at, len(rows))
            for row in ahead:
                self.assertIsNot(read_weaving("\n".join(self.placed(row))), None)

    def placed(self, row):
        """A row in a weaving in which it can stand."""
        if row.startswith("device ") or row.startswith("house "):
            return [row]
        return ["device ann", row]


class PlayedBack(unittest.TestCase):
    def test_done_written_read_back_and_played_is_alike(self):
        for drawn, rates, steps in drawn_worlds(44, 40, (40, 150, 300)):
            for step in range(steps):
                drawn.step(rates)
            drawn.do(("calm", 2))
            text = show_weaving(list(drawn.names), drawn.houses, drawn.deeds)
            devices, houses, deeds = read_weaving(text)
            self.assertEqual((devices, houses, deeds), (list(drawn.names), drawn.houses, drawn.deeds))
            other = World(devices, houses)
            self.assertEqual(other.play(deeds), drawn.told)
            self.assertEqual(other, drawn.world)
            self.assertEqual(show_weaving(devices, houses, deeds), text)

"""What several tests of ringingcalls need: odd things, sample letters, and their variants."""

import random
import unittest

from ringingcalls.errors import Busy, NoCall, NoDeed, NoLetter, NoRing, NoTalk, TooMany
from ringingcalls.worlds import World


class Contrary:
    """An object that refuses to be compared, hashed, counted or walked."""

    def __eq__(self, other):
        raise AssertionError("compared")

    def __hash__(self):
        raise AssertionError("hashed")

    def __len__(self):
        raise AssertionError("counted")

    def __iter__(self):
        raise AssertionError("walked")

    def __bool__(self):
        raise AssertionError("taken for a truth")

    def __repr__(self):
        return "Contrary()"


class Agreeing:
    """An object that is alike to everything."""

    def __eq__(self, other):
        return True

    def __hash__(self):
        return 0


def nothing():
    """A function, as a thing that is handed in."""


# None of these is a number, a name, a call, a talk, a target or a path, nor may stand anywhere in a letter.
ODD = [
    None, True, False, -1, "", "Ann", "ann1", "an n", "an-n", " ann", "ann\n", "abcdefghi", "0",
    b"ann", b"", [], ["ann"], [()], {}, {"ann": "bob"}, set(), frozenset(), nothing, len, object, object(),
    Contrary(), Agreeing(), (None,), ((),), ([],), ("ann", "ann"), ("Ann",), ("", ""), (Contrary(),), (Agreeing(),),
]

CALL = ("ann", 0)
TALK = (("ann", 3), "bob", 2)
EIGHT = ("a", "b", "c", "d", "e", "f", "g", "h")

ASKS = [
    ("ask", "ann", "hub", 0, "ring", (CALL, "zoe", 9, (), "hello")),
    ("ask", "hub", "den", 7, "ring", (("cat", 12), "zoe", 0, ("hub", "inn"), "hello")),
    ("ask", "ann", "hub", 1, "stop", (0,)),
    ("ask", "ann", "hub", 2, "bye", (TALK, 1, ())),
    ("ask", "ann", "hub", 2, "bye", (TALK, 4, ("den", "bob"))),
    ("ask", "bob", "hub", 3, "again", (TALK, 1, (), "warm")),
    ("ask", "bob", "hub", 3, "again", (TALK, 9, ("hub", "ann"), "warm")),
    ("ask", "bob", "hub", 4, "here", ("zoe", 9, 999)),
    ("ask", "bob", "hub", 5, "here", ("zoe", 0, 0)),
]
ANSWERS = [
    ("answer", "hub", "ann", 0, ("rings", "bob", ())),
    ("answer", "hub", "ann", 0, ("rings", "bob", ("hub", "den"))),
    ("answer", "hub", "ann", 1, ("taken", "bob", 0, ())),
    ("answer", "hub", "ann", 1, ("taken", "bob", 5, ("hub",))),
    ("answer", "hub", "ann", 2, ("no", 487)),
    ("answer", "hub", "ann", 3, ("done",)),
]
OTHERS = [
    ("sure", "ann", "hub", 0),
    ("held", "ann", "hub", TALK, ()),
    ("held", "ann", "hub", TALK, ("den", "bob")),
]
LETTERS = ASKS + ANSWERS + OTHERS


def put(thing, at, worth):
    """The tuple with another thing at a place, at being the indexes that lead there."""
    if not at:
        return worth
    first = at[0]
    return thing[:first] + (put(thing[first], at[1:], worth),) + thing[first + 1:]


def places(thing):
    """The indexes that lead to each place within the tuple, those in tuples within it too."""
    found = []
    for first, inner in enumerate(thing):
        found.append((first,))
        if isinstance(inner, tuple):
            found.extend([(first,) + more for more in places(inner)])
    return found


def told(thing, at):
    """What stands where the indexes lead."""
    for first in at:
        thing = thing[first]
    return thing


def without(thing, at):
    """The tuple with the item left out to which the indexes lead."""
    outer = told(thing, at[:-1])
    return put(thing, at[:-1], outer[:at[-1]] + outer[at[-1] + 1:])


def twice(thing, at):
    """The tuple with the item twice to which the indexes lead."""
    outer = told(thing, at[:-1])
    return put(thing, at[:-1], outer[:at[-1] + 1] + outer[at[-1]:])


def as_lists(thing):
    """The thing with a list in the stead of a tuple, once for each tuple in it."""
    made = [list(thing)]
    for at in places(thing):
        if isinstance(told(thing, at), tuple):
            made.append(put(thing, at, list(told(thing, at))))
    return made


# No sorts, words or roles, of anything: what is odd, and what is none of these though a name, a number or a tuple.
STRANGE = ODD + [
    0, 1, 408, 1.5, "ann", "Ring", "rings ", "ask", "stop", "sure", "up", "late", "over", "ring\n", ("ring",), ("taken",),
    ["ring"], {"ring": "taken"}, b"ring", b"no",
]


def beats(many):
    """So many beats, as deeds."""
    return [("beat",)] * many


def do(machine, deed):
    """Tell a machine one deed: a tuple of a method's name and its arguments."""
    return getattr(machine, deed[0])(*deed[1:])


def done(machine, deeds):
    """The machine, behind the deeds."""
    for deed in deeds:
        do(machine, deed)
    return machine


def spoil(thing):
    """Change a list or a dict that was told, as its asker may."""
    thing.clear()
    if isinstance(thing, list):
        thing.append("spoilt")
    else:
        thing["spoilt"] = "spoilt"


def ask(sender, receiver, number, kind, *what):
    """An ask as a letter."""
    return ("ask", sender, receiver, number, kind, what)


def ring(sender, receiver, number, call=CALL, person="zoe", hops=9, path=(), text="hello"):
    """The ask of a ring as a letter."""
    return ask(sender, receiver, number, "ring", call, person, hops, path, text)


def answer(sender, receiver, number, *what):
    """An answer as a letter."""
    return ("answer", sender, receiver, number, what)


def sure(sender, receiver, number):
    """A sure as a letter."""
    return ("sure", sender, receiver, number)


def held(sender, receiver, talk, *way):
    """A held as a letter."""
    return ("held", sender, receiver, talk, way)


def hear(letter):
    """The deed that a letter is heard."""
    return ("hear", letter)


RULES = ("hold", "extra", "given", "refresh", "late", "glare", "number")
# Letters that are none, though nearly: True where a number stands, lists, too few and too many things.
NO_LETTERS = ODD + [
    0, "ask", ("ask",), ask("ann", "bob", True, "stop", 0), ask("ann", "bob", 0, "stop", True), sure("ann", "bob", True),
    ring("ann", "bob", 0, call=("ann", True)), answer("ann", "bob", True, "done"), list(sure("ann", "bob", 0)),
    answer("ann", "bob", 0, "taken", "bob", True, ()), ask("ann", "bob", 0, "bye", TALK, 0, ()),
    ask("ann", "bob", 0, "bye", TALK, True, ()), sure("bob", "bob", 0), sure("ann", "bob", 0) + (0,),
]


def shown(keeper):
    """All that a device or a house tells when it is asked, of both kinds."""
    return (keeper.name(), keeper.kept(), keeper.askers(), keeper.askeds())


class Played(unittest.TestCase):
    """Devices and houses told deeds, and what they tell."""

    def play(self, keeper, *rows):
        """Rows of a deed and the letters that it tells."""
        for deed, letters in rows:
            self.assertEqual(do(keeper, deed), letters, deed)

    def beaten(self, keeper, many):
        """What it tells in so many beats, by beats, as far as it tells something."""
        told = {}
        for beat in range(1, many + 1):
            letters = keeper.beat()
            if letters:
                told[beat] = letters
        return told

    def refused(self, error, keeper, deed, thing):
        """A deed is refused, with its thing, and changes nothing."""
        like = keeper.twin()
        with self.assertRaises(error) as caught:
            do(keeper, deed)
        self.assertIs(caught.exception.thing, thing)
        self.assertEqual(keeper, like)


DEVICE_NAMES = ("ann", "bob", "cat", "dan")
HOUSE_NAMES = ("hub", "inn", "joy")
# Persons at devices, then one at persons of these, then one at persons of all three.
PERSONS = ("xan", "yve", "zoe", "zed")
TEXTS = ("hello", "warm", "cool", "dry")
REFUSALS = (NoCall, NoDeed, NoLetter, NoRing, NoTalk, Busy, TooMany)
# How often each deed is drawn: busy, with many copies, with many losses, slow and with few calls.
RATES = (
    {"call": 2, "give": 0.5, "take": 3, "refuse": 1, "end": 0.3, "change": 1, "here": 0.5, "beat": 8, "carry": 40,
     "double": 2, "lose": 3},
    {"call": 2, "give": 1, "take": 5, "refuse": 1, "end": 0.5, "change": 2, "here": 0.5, "beat": 4, "carry": 40,
     "double": 6, "lose": 1},
    {"call": 1, "give": 0.5, "take": 3, "refuse": 0.3, "end": 0.1, "change": 2, "here": 0.5, "beat": 10, "carry": 20,
     "double": 4, "lose": 10},
    {"call": 0.3, "give": 0.1, "take": 3, "refuse": 0.1, "end": 0.05, "change": 3, "here": 0.1, "beat": 5, "carry": 60,
     "double": 2, "lose": 2},
)


class DrawnWorld:
    """A world of drawn devices, houses and places, told drawn deeds; it keeps those done and the letters laid."""

    def __init__(self, chance, without=()):
        self.chance, self.without = chance, without
        self.names = DEVICE_NAMES[:chance.randint(2, 4)]
        self.houses = [(name, chance.random() < 0.6) for name in HOUSE_NAMES[:chance.randint(1, 3)]]
        self.world = World(list(self.names), self.houses, without=without)
        self.deeds, self.told, self.laid = [], [], {}
        for house, stays in self.houses:
            self.place(house)

    def place(self, house):
        """Persons are placed at a house, at devices or at persons that are."""
        draw = self.chance
        for person in PERSONS[:2]:
            for again in range(draw.randint(0, 3)):
                self.do(("place", house, person, ("device", draw.choice(self.names)), draw.randint(0, 3), draw.choice((5, 60, 999))))
        for person, others in ((PERSONS[2], PERSONS[:2]), (PERSONS[3], PERSONS[:3])):
            for again in range(draw.randint(0, 2)):
                target = ("person", draw.choice(others), draw.choice(self.houses)[0])
                self.do(("place", house, person, target, draw.randint(0, 3), 999))

    def do(self, deed):
        """A deed is done, unless it is refused; the letters laid are told."""
        try:
            told = self.world.do(deed)
        except REFUSALS:
            return []
        self.deeds.append(deed)
        self.told.append(told)
        under_way = dict(self.world.letters())
        letters = [under_way[number] for number in told if number in under_way]
        self.laid.update({number: under_way[number] for number in told if number in under_way})
        return letters

    def deed(self, rates):
        """A drawn deed, None where there is nothing to do it to."""
        draw = self.chance
        word = draw.choices(list(rates), list(rates.values()))[0]
        name, house = draw.choice(self.names), draw.choice(self.houses)[0]
        if word == "call":
            return ("call", name, draw.choice(PERSONS), house, draw.choice(TEXTS))
        if word == "here":
            return ("here", name, draw.choice(PERSONS[:2]), house, draw.randint(0, 3), draw.choice((0, 5, 100)))
        if word == "beat":
            return ("beat",)
        device = self.world.device(name)
        found = {"give": device.calls, "take": device.rings, "refuse": device.rings, "end": device.talks,
                 "change": device.talks}.get(word, self.world.letters)()
        if not found:
            return None
        thing = draw.choice(sorted(found))
        if word in ("carry", "lose", "double"):
            # Letters come in their order more often than not.
            return (word, found[0][0] if draw.random() < 0.5 else thing[0])
        more = {"refuse": (draw.choice((404, 480, 486, 603)),), "change": (draw.choice(TEXTS),)}.get(word, ())
        return (word, name, thing) + more

    def step(self, rates):
        """One drawn deed; it and the letters laid are told."""
        deed = self.deed(rates)
        return (deed, self.do(deed) if deed else [])

    def changes(self, talk):
        """The changes of a talk that is kept at both ends."""
        return [self.world.device(name).talks()[talk].changes() for name in (talk[0][0], talk[1])]


def drawn_worlds(seed, many, steps, without=()):
    """Drawn worlds, each with the rates by which it is to be told deeds, and how many."""
    chance = random.Random(seed)
    for run in range(many):
        yield DrawnWorld(chance, without), RATES[run % len(RATES)], chance.choice(steps)

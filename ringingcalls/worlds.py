"""Worlds: devices and houses with the letters under way between them, driven deed by deed."""

from ringingcalls.devices import Device
from ringingcalls.errors import NoDeed, NoLetter, NoName, NoRule, NoWorld, TooMany
from ringingcalls.houses import House
from ringingcalls.things import is_count, is_name, is_whole

RULES = ("hold", "extra", "given", "refresh", "late", "glare", "number")
# Of each deed's word what stands behind it, place by place.
DEEDS = {
    "call": ("name", "name", "name", "text"),
    "give": ("name", "number"),
    "take": ("name", "call"),
    "refuse": ("name", "call", "number"),
    "end": ("name", "talk"),
    "change": ("name", "talk", "text"),
    "here": ("name", "name", "name", "number", "number"),
    "place": ("name", "name", "target", "number", "number"),
    "carry": ("number",),
    "lose": ("number",),
    "double": ("number",),
    "beat": (),
    "calm": ("rounds",),
}
DEVICE_DEEDS = ("call", "give", "take", "refuse", "end", "change", "here")
LETTER_DEEDS = ("carry", "lose", "double")
MOST_ROUNDS = 300
MOST_CARRIED = 2000


def is_deed(thing):
    """Whether it is a deed by its form, of anything."""
    if not isinstance(thing, tuple) or len(thing) == 0 or not isinstance(thing[0], str):
        return False
    if thing[0] not in DEEDS or len(thing) != 1 + len(DEEDS[thing[0]]):
        return False
    return thing[0] != "calm" or (is_count(thing[1], MOST_ROUNDS) and thing[1] >= 1)


def is_house_row(thing):
    """Whether it is a tuple (name, stays), of anything."""
    return isinstance(thing, tuple) and len(thing) == 2 and is_name(thing[0]) and isinstance(thing[1], bool)


def look_at_world(devices, houses):
    """Refuse, of anything, what makes no World."""
    if not isinstance(devices, list) or not all([is_name(name) for name in devices]):
        raise NoWorld(devices)
    if len(set(devices)) != len(devices):
        raise NoWorld(devices)
    if not isinstance(houses, list) or not all([is_house_row(row) for row in houses]):
        raise NoWorld(houses)
    names = devices + [name for name, stays in houses]
    if len(names) == 0 or len(set(names)) != len(names):
        raise NoWorld(houses)


def is_rule(thing):
    """Whether it is a rule, of anything."""
    return isinstance(thing, str) and thing in RULES


def look_at_rules(without):
    """Refuse, of anything, what is no tuple of unlike rules."""
    if not isinstance(without, tuple) or not all([is_rule(rule) for rule in without]):
        raise NoRule(without)
    if len(set(without)) != len(without):
        raise NoRule(without)


def letters_of_deed(device, word, things):
    """The letters that a device tells by a deed of its own."""
    if word == "call":
        return device.call(*things)
    if word == "give":
        return device.give_up(*things)
    if word == "take":
        return device.take(*things)
    if word == "refuse":
        return device.refuse(*things)
    if word == "end":
        return device.end(*things)
    if word == "change":
        return device.change(*things)
    return device.here(*things)


def state_in(states, name, talk):
    """The state of a talk at a device, by the states at each, or none."""
    return states.get(name, {}).get(talk, "none")


class World:
    """Devices and houses by names, and the letters under way by numbers."""

    def __init__(self, devices, houses, *, without=()):
        look_at_world(devices, houses)
        look_at_rules(without)
        self.left_out = tuple(sorted(set(without)))
        self.own_devices = {name: Device(name, without=without) for name in sorted(devices)}
        self.own_houses = {name: House(name, stays=stays) for name, stays in sorted(houses)}
        self.time = 0
        self.next_letter = 0
        self.mail = {}
        # The numbers of the letters under way that are of kind again, or answers to these.
        self.agains = {}

    def do(self, deed):
        """Do a deed; the numbers of the letters that were laid are told."""
        self.look_at_deed(deed)
        word, *things = deed
        if word in DEVICE_DEEDS:
            device = self.own_devices[things[0]]
            return self.lay(device, letters_of_deed(device, word, things[1:]))
        if word in LETTER_DEEDS:
            return self.do_to_letter(word, things[0])
        if word == "place":
            house, person, target, weight, beats = things
            self.own_houses[house].place(person, target, weight, beats)
            return []
        return self.pass_beat() if word == "beat" else self.calm(things[0])

    def play(self, deeds):
        """Do several deeds, or none of them; what each tells is told."""
        if not isinstance(deeds, list):
            raise NoDeed(deeds)
        # A refusal leaves this one as it was, since only the other one has done what went ahead of it.
        other = self.twin()
        told = [other.do(deed) for deed in deeds]
        self.become(other)
        return told

    def letters(self):
        """The letters under way, as (number, letter), by numbers."""
        return [(number, self.mail[number]) for number in sorted(list(self.mail))]

    def talks(self):
        """The talks that are kept at some end, as (talk, asker's state, asked one's state), sorted."""
        states = {name: self.states_at(name) for name in self.own_devices}
        talks = sorted({talk for name in states for talk in states[name]})
        return [(talk, state_in(states, talk[0][0], talk), state_in(states, talk[1], talk)) for talk in talks]

    def hanging(self):
        """The talks that stand or wait at one end, and at the other neither, sorted."""
        live = ("stands", "waits")
        return [talk for talk, asker, asked in self.talks() if (asker in live) != (asked in live)]

    def devices(self):
        """The names of its devices, sorted."""
        return sorted(list(self.own_devices))

    def houses(self):
        """Its houses, as (name, stays), by names."""
        return [(name, self.own_houses[name].stays()) for name in sorted(list(self.own_houses))]

    def device(self, name):
        """A twin of a device."""
        if not is_name(name) or name not in self.own_devices:
            raise NoName(name)
        return self.own_devices[name].twin()

    def house(self, name):
        """A twin of a house."""
        if not is_name(name) or name not in self.own_houses:
            raise NoName(name)
        return self.own_houses[name].twin()

    def beats(self):
        """How many beats went by."""
        return self.time

    def kept(self):
        """How many things are kept that pass by themselves."""
        at_devices = [self.own_devices[name].kept() for name in self.own_devices]
        return sum(at_devices) + sum([self.own_houses[name].kept() for name in self.own_houses])

    def is_settled(self):
        """Whether nothing is kept, and under way is nothing but of kind again, and answers to these."""
        return all([number in self.agains for number in self.mail]) and self.kept() == 0

    def twin(self):
        """Another one like it, which goes on by itself."""
        other = World(self.devices(), self.houses(), without=self.left_out)
        other.own_devices = {name: self.own_devices[name].twin() for name in self.own_devices}
        other.own_houses = {name: self.own_houses[name].twin() for name in self.own_houses}
        other.time = self.time
        other.next_letter = self.next_letter
        other.mail = {number: self.mail[number] for number in self.mail}
        other.agains = {number: True for number in self.agains}
        return other

    def traits(self):
        """What two alike ones have alike, but their devices and houses."""
        return (self.left_out, self.time, self.next_letter, self.mail, self.agains)

    def __eq__(self, other):
        return (
            isinstance(other, World) and self.traits() == other.traits()
            and self.own_devices == other.own_devices and self.own_houses == other.own_houses
        )

    def become(self, other):
        """Go on as another one, which is given up."""
        self.own_devices = other.own_devices
        self.own_houses = other.own_houses
        self.time = other.time
        self.next_letter = other.next_letter
        self.mail = other.mail
        self.agains = other.agains

    def states_at(self, name):
        """The states of the talks at a device, by talks."""
        talks = self.own_devices[name].talks()
        return {talk: talks[talk].state() for talk in talks}

    def look_at_deed(self, deed):
        """Refuse, of anything, what is no deed of this World."""
        if not is_deed(deed):
            raise NoDeed(deed)
        word = deed[0]
        if word in DEVICE_DEEDS and not self.has_device(deed[1]):
            raise NoDeed(deed)
        if word == "place" and not self.has_house(deed[1]):
            raise NoDeed(deed)
        if word in ("call", "here") and not self.has_house(deed[3]):
            raise NoDeed(deed)

    def has_device(self, thing):
        """Whether it is the name of a device of this World, of anything."""
        return is_name(thing) and thing in self.own_devices

    def has_house(self, thing):
        """Whether it is the name of a house of this World, of anything."""
        return is_name(thing) and thing in self.own_houses

    def lay(self, sender, letters):
        """Letters of a device or a house are under way from now on; their numbers are told."""
        return [self.lay_one(letter, sender.post.is_of_again(letter)) for letter in letters]

    def lay_one(self, letter, of_again):
        """A letter is under way from now on; its number is told."""
        number = self.next_letter
        self.next_letter += 1
        self.mail[number] = letter
        if of_again:
            self.agains[number] = True
        return number

    def do_to_letter(self, word, number):
        """Carry, lose or double a letter under way."""
        if not is_whole(number) or number not in self.mail:
            raise NoLetter(number)
        if word == "double":
            return [self.lay_one(self.mail[number], number in self.agains)]
        letter = self.mail.pop(number)
        if number in self.agains:
            del self.agains[number]
        return self.bring(letter) if word == "carry" else []

    def bring(self, letter):
        """A letter comes to its receiver; one to nobody is lost."""
        if letter[2] in self.own_devices:
            receiver = self.own_devices[letter[2]]
        elif letter[2] in self.own_houses:
            receiver = self.own_houses[letter[2]]
        else:
            return []
        return self.lay(receiver, receiver.hear(letter))

    def pass_beat(self):
        """All devices, then all houses, have a beat."""
        self.time += 1
        told = []
        for name in sorted(list(self.own_devices)):
            told.extend(self.lay(self.own_devices[name], self.own_devices[name].beat()))
        for name in sorted(list(self.own_houses)):
            told.extend(self.lay(self.own_houses[name], self.own_houses[name].beat()))
        return told

    def calm(self, rounds):
        """So many calm rounds, or, where in one of them too many letters are carried, none."""
        other = self.twin()
        told = []
        for turn in range(rounds):
            told.extend(other.carry_all())
            told.extend(other.pass_beat())
        self.become(other)
        return told

    def carry_all(self):
        """Carry all letters under way, and those laid meanwhile, in order."""
        told = []
        carried = 0
        while self.mail:
            carried += 1
            if carried > MOST_CARRIED:
                raise TooMany(carried)
            told.extend(self.do_to_letter("carry", min(list(self.mail))))
        return told

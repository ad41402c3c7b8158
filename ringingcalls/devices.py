"""Devices: one that calls, rings, takes and talks, and what it keeps of all this."""

from ringingcalls.ends import DONE, GIVEN_UP_RANK, GONE_RANK, KIND_RANK, LATE, LOOP_RANK, NOBODY_RANK
from ringingcalls.errors import NoCall, NoName, NoNumber, NoRank, NoRing, NoTalk
from ringingcalls.letters import fits_place
from ringingcalls.posts import Post, answer_of, end_of
from ringingcalls.talks import Talk
from ringingcalls.things import is_call, is_name, is_rank, is_talk, is_whole

FIRST_HOPS = 9
ALONE = 30


class Begun:
    """A call that this device began: its asking, whether it was given up, and the takings known of it."""

    def __init__(self, asking):
        self.asking = asking
        self.given = False
        self.known = {}

    def twin(self):
        """Another one like it, which goes on by itself."""
        other = Begun(self.asking)
        other.given = self.given
        other.known = {taking: True for taking in self.known}
        return other

    def traits(self):
        """What two alike ones have alike."""
        return (self.asking, self.given, self.known)


class Ringing:
    """A ring that came: the key of its asking, the path and the text that came with it, and its beats."""

    def __init__(self, key, path, text):
        self.key = key
        self.path = path
        self.text = text
        self.since = 0

    def twin(self):
        """Another one like it, which goes on by itself."""
        other = Ringing(self.key, self.path, self.text)
        other.since = self.since
        return other

    def traits(self):
        """What two alike ones have alike."""
        return (self.key, self.path, self.text, self.since)


class Line:
    """This device's end of a talk, its path, and the key of the ring that was taken, None at an asker's end."""

    def __init__(self, machine, path, key):
        self.machine = machine
        self.path = path
        self.key = key

    def route(self, talk):
        """All by whom a letter within the talk goes, in order, the other end last."""
        call, device, number = talk
        if self.key is None:
            return (*self.path, device)
        back = self.path[::-1]
        return (*back, call[0])

    def twin(self):
        """Another one like it, which goes on by itself."""
        return Line(self.machine.twin(), self.path, self.key)

    def traits(self):
        """What two alike ones have alike."""
        return (self.machine.traits(), self.path, self.key)


class Device:
    """A device; each list that it tells holds the letters that are due, in order."""

    def __init__(self, name, *, without=()):
        if not is_name(name):
            raise NoName(name)
        self.own_name = name
        self.left_out = tuple(sorted(set(without)))
        self.post = Post(name)
        self.calls_begun = 0
        self.rings_taken = 0
        self.begun_calls = {}
        self.ringings = {}
        self.lines = {}

    def call(self, person, house, text):
        """Call a person by a house."""
        self.look_at_person_and_house(person, house)
        if not is_name(text):
            raise NoName(text)
        number = self.calls_begun
        self.calls_begun += 1
        letter = self.post.ask(house, "ring", ((self.own_name, number), person, FIRST_HOPS, (), text))
        self.begun_calls[number] = Begun(letter[3])
        return [letter]

    def give_up(self, number):
        """Give a call up."""
        if not is_whole(number) or number not in self.begun_calls:
            raise NoCall(number)
        begun = self.begun_calls[number]
        begun.given = True
        return self.post.give_up_asking(begun.asking)

    def here(self, person, house, weight, beats):
        """Tell a house that a person is at this device."""
        self.look_at_person_and_house(person, house)
        if not fits_place(weight, "weight"):
            raise NoNumber(weight)
        if not fits_place(beats, "beats"):
            raise NoNumber(beats)
        return [self.post.ask(house, "here", (person, weight, beats))]

    def take(self, call):
        """Take a ring."""
        self.look_at_ring(call)
        ringing = self.ringings[call]
        talk = (call, self.own_name, self.rings_taken)
        self.rings_taken += 1
        machine = Talk("asked", ringing.text, without=self.left_out)
        self.lines[talk] = Line(machine, ringing.path, ringing.key)
        return self.say_taken(talk)

    def refuse(self, call, rank):
        """Refuse a ring."""
        self.look_at_ring(call)
        if not is_rank(rank):
            raise NoRank(rank)
        return self.post.answer(self.ringings[call].key, ("no", rank))

    def end(self, talk):
        """End a talk."""
        self.look_at_talk(talk, ("waits", "stands"))
        return self.carry_out(talk, self.lines[talk].machine.end())

    def change(self, talk, text):
        """Change a talk."""
        self.look_at_talk(talk, ("stands",))
        if not is_name(text):
            raise NoName(text)
        return self.carry_out(talk, self.lines[talk].machine.change(text))

    def hear(self, letter):
        """A letter comes."""
        self.post.look_at_letter(letter)
        word = letter[0]
        if word == "ask":
            return self.hear_ask(letter)
        if word == "answer":
            letters, handed_on = self.post.hear_answer(letter)
            return letters + self.come_of(letter[3], letter[4]) if handed_on else letters
        if word == "sure":
            return self.post.hear_sure_of((letter[1], letter[3]))
        return self.hear_held(letter[3], letter[4])

    def beat(self):
        """One beat goes by."""
        letters, late = self.post.beat_askers()
        for number in late:
            letters.extend(self.tell_end(number, LATE))
        letters.extend(self.post.beat_askeds())
        letters.extend(self.beat_rings())
        for talk in sorted(list(self.lines)):
            letters.extend(self.carry_out(talk, self.lines[talk].machine.beat()))
        self.forget()
        return letters

    def name(self):
        """Its name."""
        return self.own_name

    def calls(self):
        """The numbers of the calls that it began and that aren't forgotten, sorted."""
        return sorted(list(self.begun_calls))

    def rings(self):
        """The calls of the rings that have no end, sorted."""
        return sorted([call for call in self.ringings if self.is_ringing(call)])

    def talks(self):
        """Twins of its Talks, by talks."""
        return {talk: self.lines[talk].machine.twin() for talk in self.lines}

    def kept(self):
        """How many things it keeps that pass by themselves."""
        others = [talk for talk in self.lines if self.lines[talk].machine.state() != "stands"]
        return self.post.count_kept() + len(self.begun_calls) + len(self.rings()) + len(others)

    def askers(self):
        """Its askings, as (number, letter, state), by numbers."""
        return self.post.list_sent()

    def askeds(self):
        """The askings that came to it, as (from, n, state), sorted."""
        return self.post.list_came()

    def twin(self):
        """Another one like it, which goes on by itself."""
        other = Device(self.own_name, without=self.left_out)
        other.post = self.post.twin()
        other.calls_begun = self.calls_begun
        other.rings_taken = self.rings_taken
        other.begun_calls = {number: self.begun_calls[number].twin() for number in self.begun_calls}
        other.ringings = {call: self.ringings[call].twin() for call in self.ringings}
        other.lines = {talk: self.lines[talk].twin() for talk in self.lines}
        return other

    def traits(self):
        """What two alike ones have alike: all that they go on by."""
        begun = {number: self.begun_calls[number].traits() for number in self.begun_calls}
        ringings = {call: self.ringings[call].traits() for call in self.ringings}
        lines = {talk: self.lines[talk].traits() for talk in self.lines}
        return (self.left_out, self.post.traits(), self.calls_begun, self.rings_taken, begun, ringings, lines)

    def __eq__(self, other):
        return isinstance(other, Device) and self.traits() == other.traits()

    def look_at_person_and_house(self, person, house):
        """Refuse what is no name, and this device itself as a house."""
        if not is_name(person):
            raise NoName(person)
        if not is_name(house) or house == self.own_name:
            raise NoName(house)

    def is_ringing(self, call):
        """Whether a ring that is kept has no end."""
        return self.post.ring_state(self.ringings[call].key) == "goes"

    def look_at_ring(self, call):
        """Refuse, of anything, what is no call of a ring without an end."""
        if not is_call(call) or call not in self.ringings or not self.is_ringing(call):
            raise NoRing(call)

    def look_at_talk(self, talk, states):
        """Refuse, of anything, what is no talk that is in one of these states here."""
        if not is_talk(talk) or talk not in self.lines or self.lines[talk].machine.state() not in states:
            raise NoTalk(talk)

    def keeps(self, rule):
        """Whether it goes by a rule."""
        return rule not in self.left_out

    def say_taken(self, talk):
        """Say the taking of a ring, anew too."""
        line = self.lines[talk]
        return self.post.answer(line.key, ("taken", self.own_name, talk[2], line.path))

    def held_letter(self, talk):
        """The letter that a taking was heard."""
        first, *way = self.lines[talk].route(talk)
        return ("held", self.own_name, first, talk, tuple(way))

    def carry_out(self, talk, rows):
        """The letters that are due where a Talk tells these rows."""
        first, *way = self.lines[talk].route(talk)
        letters = []
        for word, *things in rows:
            if word == "taken":
                letters.extend(self.say_taken(talk))
            else:
                number, *texts = things
                letters.append(self.post.ask(first, word, (talk, number, tuple(way), *texts)))
        return letters

    def hear_ask(self, letter):
        """An ask comes, new or again."""
        word, sender, owner, number, kind, what = letter
        key = (sender, number)
        if key in self.post.came:
            return self.post.say_again(key)
        self.post.receive(key, kind)
        if kind == "ring":
            return self.hear_ring(key, what)
        if kind == "stop":
            return self.hear_stop(key, (sender, what[0]))
        if kind in ("bye", "again"):
            return self.post.answer(key, answer_of(self.hear_within(kind, what)))
        return self.post.answer(key, ("no", KIND_RANK))

    def hear_ring(self, key, what):
        """A ring comes new."""
        call, person, hops, path, text = what
        talked = any([talk[0] == call for talk in self.lines])
        if call[0] == self.own_name or call in self.ringings or talked:
            return self.post.answer(key, ("no", LOOP_RANK))
        self.ringings[call] = Ringing(key, path, text)
        return self.post.answer(key, ("rings", self.own_name, path))

    def hear_stop(self, key, stopped):
        """A stop comes new, of the asking with the key stopped."""
        state = self.post.ring_state(stopped)
        if state == "goes":
            return self.post.answer(key, (DONE,)) + self.post.answer(stopped, ("no", GIVEN_UP_RANK))
        return self.post.answer(key, answer_of(DONE if state in ("told", "took") else GONE_RANK))

    def hear_within(self, kind, what):
        """What comes of a bye or an again: done, or a rank."""
        talk, number, way, *texts = what
        if way != () or talk not in self.lines:
            return GONE_RANK
        machine = self.lines[talk].machine
        return machine.hear_bye(number) if kind == "bye" else machine.hear_again(number, texts[0])

    def hear_held(self, talk, way):
        """A held comes."""
        if way != () or talk not in self.lines:
            return []
        return self.carry_out(talk, self.lines[talk].machine.held())

    def come_of(self, number, what):
        """What comes of an answer that is handed on."""
        if self.post.sent[number].kind != "ring":
            return self.tell_end(number, end_of(what))
        return self.hear_taking(number, what) if what[0] == "taken" else []

    def tell_end(self, number, end):
        """What an asking came to is told to the Talk within which it was asked."""
        asking = self.post.sent[number]
        if asking.kind not in ("bye", "again"):
            return []
        talk = asking.letter[5][0]
        if talk not in self.lines:
            return []
        machine = self.lines[talk].machine
        return self.carry_out(talk, machine.gone() if asking.kind == "bye" else machine.answered(end))

    def hear_taking(self, number, what):
        """A taking of a call is heard."""
        ring = self.post.sent[number].letter[5]
        word, device, taking, path = what
        if device == self.own_name:
            return []
        begun = self.begun_calls[ring[0][1]]
        talk = (ring[0], device, taking)
        if (device, taking) in begun.known:
            return [self.held_letter(talk)] if talk in self.lines else []
        ends = (len(begun.known) > 0 and self.keeps("extra")) or (begun.given and self.keeps("given"))
        begun.known[(device, taking)] = True
        self.lines[talk] = Line(Talk("asker", ring[4], without=self.left_out), path, None)
        letters = [self.held_letter(talk)]
        return letters + self.end(talk) if ends else letters

    def beat_rings(self):
        """Each ring without an end has a beat, by the keys of their askings; what was left alone is refused."""
        letters = []
        for key, call in sorted([(self.ringings[call].key, call) for call in self.rings()]):
            ringing = self.ringings[call]
            ringing.since += 1
            if ringing.since >= ALONE:
                letters.extend(self.post.answer(key, ("no", NOBODY_RANK)))
        return letters

    def forget(self):
        """What is over goes, and with it what hangs on it."""
        self.post.forget()
        self.begun_calls = {
            number: begun for number, begun in self.begun_calls.items() if begun.asking in self.post.sent
        }
        self.ringings = {call: ringing for call, ringing in self.ringings.items() if ringing.key in self.post.came}
        self.lines = {talk: line for talk, line in self.lines.items() if line.machine.state() != "over"}

"""Houses: one that knows where persons are, asks several for a ring at once, and sends on what is within talks."""

from ringingcalls.ends import (
    DONE, FULL_RANK, GONE_RANK, HOPS_RANK, LATE_RANK, LOOP_RANK, NOBODY_RANK,
)
from ringingcalls.errors import NoName, NoTruth, TooMany
from ringingcalls.forks import Fork
from ringingcalls.places import Places
from ringingcalls.posts import Post, answer_of, end_of
from ringingcalls.things import LONGEST_PATH, is_name

PATIENCE = 120


def receiver_of(target):
    """The device or house that is asked for a target."""
    return target[1] if target[0] == "device" else target[2]


class Branching:
    """The Fork of a ring that came, the ring itself, its beats, and the askings of its targets."""

    def __init__(self, ring, machine):
        self.ring = ring
        self.machine = machine
        self.since = 0
        self.askings = {}

    def asks_for(self, call, person):
        """Whether it is of this call and person, and isn't over."""
        return self.ring[0] == call and self.ring[1] == person and not self.machine.is_over()

    def has_asked(self, target, number):
        """Whether the asking of this number is its own one of the target."""
        return self.askings.get(target) == number

    def twin(self):
        """Another one like it, which goes on by itself."""
        other = Branching(self.ring, self.machine.twin())
        other.since = self.since
        other.askings = {target: self.askings[target] for target in self.askings}
        return other

    def traits(self):
        """What two alike ones have alike."""
        return (self.ring, self.machine.traits(), self.since, self.askings)


class House:
    """A house; each list that it tells holds the letters that are due, in order."""

    def __init__(self, name, *, stays=True):
        if not is_name(name):
            raise NoName(name)
        if not isinstance(stays, bool):
            raise NoTruth(stays)
        self.own_name = name
        self.staying = stays
        self.post = Post(name)
        self.known_places = Places()
        self.branchings = {}

    def hear(self, letter):
        """A letter comes."""
        self.post.look_at_letter(letter)
        word = letter[0]
        if word == "ask":
            return self.hear_ask(letter)
        if word == "answer":
            letters, handed_on = self.post.hear_answer(letter)
            return letters + self.come_of(letter[3], letter[4]) if handed_on else letters
        if word == "sure":
            return self.post.hear_sure_of((letter[1], letter[3]))
        return self.hear_held(letter[3], letter[4])

    def beat(self):
        """One beat goes by."""
        self.known_places.beat()
        letters, late = self.post.beat_askers()
        for number in late:
            letters.extend(self.come_late(number))
        letters.extend(self.post.beat_askeds())
        for key in sorted(list(self.branchings)):
            letters.extend(self.beat_branching(key))
        self.post.forget()
        self.branchings = {key: self.branchings[key] for key in self.branchings if key in self.post.came}
        return letters

    def place(self, person, target, weight, beats):
        """Its Places are told that a person is at a target."""
        self.known_places.tell(person, target, weight, beats)

    def name(self):
        """Its name."""
        return self.own_name

    def stays(self):
        """Whether letters within talks go by it."""
        return self.staying

    def places(self):
        """A twin of its Places."""
        return self.known_places.twin()

    def forks(self):
        """Twins of its Forks, by (from, n)."""
        return {key: self.branchings[key].machine.twin() for key in self.branchings}

    def kept(self):
        """How many things it keeps that pass by themselves."""
        return self.post.count_kept() + len(self.branchings)

    def askers(self):
        """Its askings, as (number, letter, state), by numbers."""
        return self.post.list_sent()

    def askeds(self):
        """The askings that came to it, as (from, n, state), sorted."""
        return self.post.list_came()

    def twin(self):
        """Another one like it, which goes on by itself."""
        other = House(self.own_name, stays=self.staying)
        other.post = self.post.twin()
        other.known_places = self.known_places.twin()
        other.branchings = {key: self.branchings[key].twin() for key in self.branchings}
        return other

    def traits(self):
        """What two alike ones have alike, but their Places: all that they go on by."""
        branchings = {key: self.branchings[key].traits() for key in self.branchings}
        return (self.staying, self.post.traits(), branchings)

    def __eq__(self, other):
        return (
            isinstance(other, House) and self.known_places == other.known_places and self.traits() == other.traits()
        )

    def hear_ask(self, letter):
        """An ask comes, new or again."""
        word, sender, owner, number, kind, what = letter
        key = (sender, number)
        if key in self.post.came:
            return self.post.say_again(key)
        self.post.receive(key, kind)
        if kind == "ring":
            return self.hear_ring(key, what)
        if kind == "stop":
            return self.hear_stop(key, (sender, what[0]))
        if kind == "here":
            return self.post.answer(key, answer_of(self.hear_here(sender, what)))
        return self.hear_within(key, kind, what)

    def hear_ring(self, key, what):
        """A ring comes new."""
        rank = self.rank_of_ring(what)
        if rank is not None:
            return self.post.answer(key, ("no", rank))
        call, person, hops, path, text = what
        letters = self.post.answer(key, ("rings", self.own_name, path))
        fork = Fork(self.known_places.groups(person))
        self.branchings[key] = Branching(what, fork)
        return letters + self.carry_out(key, fork.begin(), None)

    def rank_of_ring(self, what):
        """The rank with which a new ring is refused at once, None where it isn't."""
        call, person, hops, path, text = what
        if hops == 0 or (self.staying and len(path) == LONGEST_PATH):
            return HOPS_RANK
        asked = any([self.branchings[key].asks_for(call, person) for key in self.branchings])
        if self.own_name in path or asked:
            return LOOP_RANK
        return None if self.known_places.groups(person) else NOBODY_RANK

    def hear_stop(self, key, stopped):
        """A stop comes new, of the asking with the key stopped."""
        state = self.post.ring_state(stopped)
        if state == "goes":
            rows = self.branchings[stopped].machine.give_up()
            return self.post.answer(key, (DONE,)) + self.carry_out(stopped, rows, None)
        return self.post.answer(key, answer_of(DONE if state in ("told", "took") else GONE_RANK))

    def hear_here(self, sender, what):
        """What comes of a here: done, or a rank."""
        person, weight, beats = what
        try:
            self.known_places.tell(person, ("device", sender), weight, beats)
        except TooMany:
            return FULL_RANK
        return DONE

    def hear_within(self, key, kind, what):
        """A bye or an again comes new: the next one of its way is asked the same."""
        talk, number, way, *texts = what
        if self.ends_way(way):
            return self.post.answer(key, ("no", GONE_RANK))
        return [self.post.ask(way[0], kind, (talk, number, way[1:], *texts), (key, None))]

    def hear_held(self, talk, way):
        """A held comes."""
        if self.ends_way(way):
            return []
        return [("held", self.own_name, way[0], talk, way[1:])]

    def ends_way(self, way):
        """Whether a way leads on to nobody else."""
        return len(way) == 0 or way[0] == self.own_name

    def come_of(self, number, what):
        """What comes of an answer that is handed on."""
        asking = self.post.sent[number]
        if asking.purpose is None:
            return []
        key, target = asking.purpose
        if target is None:
            return self.post.answer(key, what)
        # A late copy of the ring may have made another Fork there, which did not ask this.
        if key not in self.branchings or not self.branchings[key].has_asked(target, number):
            return []
        fork = self.branchings[key].machine
        if what[0] == "rings":
            return self.carry_out(key, fork.rings(target), what)
        if what[0] == "taken":
            return self.carry_out(key, fork.taken(target), what)
        return self.carry_out(key, fork.no(target, end_of(what)), what)

    def come_late(self, number):
        """What comes of an asking that came late."""
        return self.come_of(number, ("no", LATE_RANK))

    def carry_out(self, key, rows, what):
        """The letters that are due where the Fork of this key tells these rows, by an answer what from below."""
        letters = []
        for word, thing in rows:
            if word == "ask":
                letters.extend(self.ask_target(key, thing))
            elif word == "stop":
                letters.extend(self.post.give_up_asking(self.branchings[key].askings[thing]))
            elif word == "no":
                letters.extend(self.post.answer(key, ("no", thing)))
            else:
                letters.extend(self.post.answer(key, what))
        return letters

    def ask_target(self, key, target):
        """Ask a target with the ring that came; what would be asked of this house itself is refused."""
        branching = self.branchings[key]
        receiver = receiver_of(target)
        if receiver == self.own_name:
            return self.carry_out(key, branching.machine.no(target, LOOP_RANK), None)
        call, person, hops, path, text = branching.ring
        wanted = person if target[0] == "device" else target[1]
        onward = (*path, self.own_name) if self.staying else path
        letter = self.post.ask(receiver, "ring", (call, wanted, hops - 1, onward, text), (key, target))
        branching.askings[target] = letter[3]
        return [letter]

    def beat_branching(self, key):
        """A Fork has a beat; one that lasts too long is given up."""
        branching = self.branchings[key]
        branching.since += 1
        if branching.since != PATIENCE:
            return []
        return self.carry_out(key, branching.machine.give_up(), None)

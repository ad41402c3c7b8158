"""Posts: what a device or a house keeps of the askings that it sent, and of those that came to it."""

from ringingcalls.askeds import Asked
from ringingcalls.askers import ANSWERS, Asker
from ringingcalls.ends import DONE
from ringingcalls.errors import NoLetter
from ringingcalls.letters import is_letter


def sort_of(kind):
    """The sort of the machines of an asking of this kind."""
    return "ring" if kind == "ring" else "other"


def end_of(what):
    """What an answer that ends an asking comes to: done, or the rank of a no."""
    return DONE if what[0] == DONE else what[1]


def answer_of(end):
    """The answer by which this end is told."""
    return (DONE,) if end == DONE else ("no", end)


class Asking:
    """An asking that was sent: its letter, its machine, and what it was asked for."""

    def __init__(self, letter, purpose):
        self.letter = letter
        self.purpose = purpose
        self.kind = letter[4]
        self.machine = Asker(sort_of(letter[4]))

    def twin(self):
        """Another one like it, which goes on by itself."""
        other = Asking(self.letter, self.purpose)
        other.machine = self.machine.twin()
        return other

    def traits(self):
        """What two alike ones have alike."""
        return (self.letter, self.purpose, self.machine.traits())


class Answering:
    """An asking that came: its kind, its machine, and the last thing said to it."""

    def __init__(self, kind):
        self.kind = kind
        self.machine = Asked(sort_of(kind))
        self.said = None

    def twin(self):
        """Another one like it, which goes on by itself."""
        other = Answering(self.kind)
        other.machine = self.machine.twin()
        other.said = self.said
        return other

    def traits(self):
        """What two alike ones have alike."""
        return (self.kind, self.said, self.machine.traits())


class Post:
    """All askings of one that has a name: those sent, by numbers, and those that came, by (from, n)."""

    def __init__(self, owner):
        self.owner = owner
        self.next_number = 0
        self.sent = {}
        self.came = {}

    def look_at_letter(self, letter):
        """Refuse, of anything, what is no letter to this one."""
        if not is_letter(letter) or letter[2] != self.owner:
            raise NoLetter(letter)

    def ask(self, receiver, kind, what, purpose=None):
        """Send a new asking; its letter is told."""
        letter = ("ask", self.owner, receiver, self.next_number, kind, what)
        self.sent[self.next_number] = Asking(letter, purpose)
        self.next_number += 1
        return letter

    def give_up_asking(self, number):
        """An asking that was sent is given up."""
        return self.letters_of_asker(number, self.sent[number].machine.give_up())

    def letters_of_asker(self, number, words):
        """The letters that are due where the asking's machine tells these words."""
        letter = self.sent[number].letter
        letters = []
        for word in words:
            if word == "ask":
                letters.append(letter)
            elif word == "stop":
                letters.append(self.ask(letter[2], "stop", (number,)))
            elif word == "sure":
                letters.append(("sure", self.owner, letter[2], number))
        return letters

    def hear_answer(self, letter):
        """An answer came: the letters that its machine tells, and whether it is handed on."""
        word, sender, owner, number, what = letter
        if number not in self.sent or self.sent[number].letter[2] != sender:
            return ([], False)
        machine = self.sent[number].machine
        if what[0] not in ANSWERS[machine.manner()]:
            return ([], False)
        words = machine.hear(what[0])
        return (self.letters_of_asker(number, words), "up" in words)

    def receive(self, key, kind):
        """A new asking came."""
        self.came[key] = Answering(kind)

    def say_again(self, key):
        """The ask of an asking that came is here once more."""
        return self.letters_of_asked(key, self.came[key].machine.hear_again())

    def answer(self, key, what):
        """Say this to an asking that came, as far as its machine lets it out."""
        answering = self.came[key]
        words = answering.machine.say(what[0])
        if words:
            answering.said = what
        return self.letters_of_asked(key, words)

    def letters_of_asked(self, key, words):
        """The last thing said, once for each of the words."""
        sender, number = key
        return [("answer", self.owner, sender, number, self.came[key].said) for word in words]

    def hear_sure_of(self, key):
        """A sure came; one that meets no machine is nothing."""
        if key in self.came:
            self.came[key].machine.hear_sure()
        return []

    def ring_state(self, key):
        """The state of a ring that came, None where there is none."""
        if key not in self.came or self.came[key].kind != "ring":
            return None
        return self.came[key].machine.state()

    def beat_askers(self):
        """Each asking sent has a beat: the letters due, and the numbers of those that came late."""
        letters = []
        late = []
        for number in sorted(list(self.sent)):
            words = self.sent[number].machine.beat()
            letters.extend(self.letters_of_asker(number, words))
            if "late" in words:
                late.append(number)
        return (letters, late)

    def beat_askeds(self):
        """Each asking that came has a beat: the letters due."""
        letters = []
        for key in sorted(list(self.came)):
            letters.extend(self.letters_of_asked(key, self.came[key].machine.beat()))
        return letters

    def forget(self):
        """What is over goes."""
        self.sent = {number: self.sent[number] for number in self.sent if self.sent[number].machine.state() != "over"}
        self.came = {key: self.came[key] for key in self.came if self.came[key].machine.state() != "over"}

    def is_of_again(self, letter):
        """Whether a letter that this one sends is of kind again, or an answer to one."""
        if letter[0] == "ask":
            return letter[4] == "again"
        key = (letter[2], letter[3])
        return letter[0] == "answer" and key in self.came and self.came[key].kind == "again"

    def count_kept(self):
        """How many askings are kept, sent and come, but those of kind again."""
        kinds = [self.sent[number].kind for number in self.sent] + [self.came[key].kind for key in self.came]
        return len([kind for kind in kinds if kind != "again"])

    def list_sent(self):
        """The askings sent, as (number, letter, state), by numbers."""
        numbers = sorted(list(self.sent))
        return [(number, self.sent[number].letter, self.sent[number].machine.state()) for number in numbers]

    def list_came(self):
        """The askings that came, as (from, n, state), sorted."""
        return [(key[0], key[1], self.came[key].machine.state()) for key in sorted(list(self.came))]

    def twin(self):
        """Another one like it, which goes on by itself."""
        other = Post(self.owner)
        other.next_number = self.next_number
        other.sent = {number: self.sent[number].twin() for number in self.sent}
        other.came = {key: self.came[key].twin() for key in self.came}
        return other

    def traits(self):
        """What two alike ones have alike."""
        sent = {number: self.sent[number].traits() for number in self.sent}
        came = {key: self.came[key].traits() for key in self.came}
        return (self.owner, self.next_number, sent, came)

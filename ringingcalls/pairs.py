"""Pairs: every weaving of one asking between an asker's and an asked one's machine."""

from ringingcalls.askeds import Asked
from ringingcalls.askers import ANSWERS, Asker, look_at_sort
from ringingcalls.errors import NoNumber
from ringingcalls.things import is_count

MOST_LOST = 3
MOST_BEATS = 18


def end_word(machine):
    """The end of a machine as a word; of none at all likewise."""
    if machine is None or machine.end() is None:
        return "none"
    return machine.end()


class Pair:
    """Both machines of one asking, and the letters under way between them, each as its word."""

    def __init__(self, sort):
        self.caller = Asker(sort)
        # The asked one keeps nothing ahead of the first ask that comes.
        self.callee = None
        self.spoken = None
        self.rang = False
        self.mail = ["ask"]
        self.losses = 0
        self.time = 0

    def twin(self):
        """Another one like it, which goes on by itself."""
        other = Pair(self.caller.manner())
        other.caller = self.caller.twin()
        other.callee = None if self.callee is None else self.callee.twin()
        other.spoken = self.spoken
        other.rang = self.rang
        other.mail = list(self.mail)
        other.losses = self.losses
        other.time = self.time
        return other

    def traits(self):
        """All that it goes on by, fit for a member of a set."""
        callee = None if self.callee is None else self.callee.traits()
        mail = tuple(sorted(self.mail))
        return (self.caller.traits(), callee, self.spoken, self.rang, mail, self.losses, self.time)

    def ends_now(self):
        """The asker's end and the asked one's, as words."""
        return (end_word(self.caller), end_word(self.callee))

    def is_told(self):
        """Whether its ends count: both are there, or nothing more goes by itself."""
        if "none" not in self.ends_now():
            return True
        return self.time == MOST_BEATS and not self.mail

    def sayings(self):
        """The words that the asked one may say now."""
        if self.callee is None or self.callee.state() != "goes":
            return []
        return [word for word in ANSWERS[self.callee.manner()] if word != "rings" or not self.rang]

    def send_of_caller(self, told):
        """Lay the letters that the asker told of."""
        for word in told:
            if word in ("ask", "sure"):
                self.mail.append(word)

    def send_of_callee(self, told):
        """Lay what was said last, as often as the asked one told so."""
        for word in told:
            self.mail.append(self.spoken)

    def lose(self, letter):
        """A letter under way is lost."""
        self.mail.remove(letter)
        self.losses += 1

    def come(self, letter):
        """A letter under way comes."""
        self.mail.remove(letter)
        if letter == "sure":
            self.send_of_callee(self.callee.hear_sure())
        elif letter != "ask":
            self.send_of_caller(self.caller.hear(letter))
        elif self.callee is None:
            self.callee = Asked(self.caller.manner())
        else:
            self.send_of_callee(self.callee.hear_again())

    def speak(self, word):
        """The asked one says a word."""
        self.spoken = word
        self.rang = self.rang or word == "rings"
        self.send_of_callee(self.callee.say(word))

    def pass_beat(self):
        """Both have a beat."""
        self.time += 1
        self.send_of_caller(self.caller.beat())
        if self.callee is not None:
            self.send_of_callee(self.callee.beat())


def pairs_behind(pair, lost):
    """All that may come of a pair by one step, at most so many letters being lost."""
    found = []
    for letter in sorted(set(pair.mail)):
        other = pair.twin()
        other.come(letter)
        found.append(other)
        if pair.losses < lost:
            other = pair.twin()
            other.lose(letter)
            found.append(other)
    for word in pair.sayings():
        other = pair.twin()
        other.speak(word)
        found.append(other)
    if not pair.mail and pair.time < MOST_BEATS:
        other = pair.twin()
        other.pass_beat()
        found.append(other)
    return found


def pair_ends(sort, lost):
    """The ends, of asker and asked one, that all weavings with at most so many lost letters come to."""
    look_at_sort(sort)
    if not is_count(lost, MOST_LOST):
        raise NoNumber(lost)
    ends = set()
    seen = set()
    waiting = [Pair(sort)]
    while waiting:
        pair = waiting.pop()
        if pair.traits() in seen:
            continue
        seen.add(pair.traits())
        if pair.is_told():
            ends.add(pair.ends_now())
        # An end never turns, so nothing new comes behind two of them.
        if "none" in pair.ends_now():
            waiting.extend(pairs_behind(pair, lost))
    return sorted(ends)

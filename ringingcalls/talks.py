"""Talks: what each of its two ends keeps of a talk, from the taking until it is over."""

from ringingcalls.ends import DONE, GLARE_RANK, GONE_RANK, LATE, LATE_RANK, OLD_RANK
from ringingcalls.errors import Busy, NoRole

ROLES = ("asker", "asked")
TAKEN_BEATS = (1, 3, 7, 11, 15)
UNHELD = 16
REFRESHING = 32
UNHEARD = 96
# Unlike, so that two changes that refused each other do not meet again.
PAUSES = {"asker": 5, "asked": 2}


class Talk:
    """One end of a talk; each list that it tells says what is to be done."""

    def __init__(self, role, text, *, without=()):
        if not isinstance(role, str) or role not in ROLES:
            raise NoRole(role)
        self.own_role = role
        self.now = "stands" if role == "asker" else "waits"
        self.texts = [text]
        self.own_number = 0
        self.heard_number = 0
        self.going = None
        self.coming = None
        self.pause = 0
        # Of one that waits: all beats; of one that stands: those behind the last sign that counts for its role.
        self.since = 0
        self.left_out = tuple(sorted(set(without)))

    def held(self):
        """Its taking was heard."""
        if self.now == "waits":
            self.turn("stands")
        return []

    def end(self):
        """It is ended at this end."""
        if self.now not in ("waits", "stands"):
            return []
        self.turn("ends")
        self.own_number += 1
        return [("bye", self.own_number)]

    def change(self, text):
        """It is changed at this end."""
        if self.now != "stands":
            return []
        if self.going is not None or self.coming is not None:
            raise Busy("a change is under way, or to come again")
        return self.ask_again(text)

    def answered(self, answer):
        """The own change under way is answered: done, a rank, or late."""
        if self.now != "stands" or self.going is None:
            return []
        text = self.going
        self.going = None
        if answer == DONE:
            self.since = 0
            self.put(text)
        elif answer == GLARE_RANK:
            self.coming = text
            self.pause = PAUSES[self.own_role]
        elif answer == GONE_RANK or (answer in (LATE, LATE_RANK) and self.keeps("late")):
            self.turn("over")
        return []

    def gone(self):
        """Its bye is answered, or came late."""
        if self.now == "ends":
            self.turn("over")
        return []

    def beat(self):
        """One beat goes by."""
        if self.now == "waits":
            return self.beat_waiting()
        if self.now == "stands":
            return self.beat_standing()
        return []

    def hear_again(self, number, text):
        """The other end's again came: done, or the rank of a no."""
        self.held()
        if self.now != "stands":
            return GONE_RANK
        if self.is_old(number):
            return OLD_RANK
        self.count_heard(number)
        if self.going is not None and self.keeps("glare"):
            return GLARE_RANK
        self.put(text)
        return DONE

    def hear_bye(self, number):
        """The other end's bye came: done, or the rank of a no."""
        self.held()
        if self.now == "over":
            return GONE_RANK
        if self.now == "stands" and self.is_old(number):
            return OLD_RANK
        self.count_heard(number)
        self.turn("over")
        return DONE

    def role(self):
        """Its role."""
        return self.own_role

    def state(self):
        """Its state."""
        return self.now

    def changes(self):
        """Its texts, the first one first."""
        return list(self.texts)

    def numbers(self):
        """The last own number and the greatest one heard, each 0 where there is none."""
        return (self.own_number, self.heard_number)

    def under_way(self):
        """The text of the own change under way, None where there is none."""
        return self.going

    def to_come(self):
        """The text that is to come again, None where there is none."""
        return self.coming

    def twin(self):
        """Another one like it, which goes on by itself."""
        other = Talk(self.own_role, self.texts[0], without=self.left_out)
        other.now = self.now
        other.texts = list(self.texts)
        other.own_number = self.own_number
        other.heard_number = self.heard_number
        other.going = self.going
        other.coming = self.coming
        other.pause = self.pause
        other.since = self.since
        return other

    def traits(self):
        """What two alike ones have alike: all that they go on by."""
        told = (self.own_role, self.now, self.texts, self.own_number, self.heard_number, self.going, self.coming)
        return (told, self.pause, self.since, self.left_out)

    def __eq__(self, other):
        return isinstance(other, Talk) and self.traits() == other.traits()

    def keeps(self, rule):
        """Whether it goes by a rule."""
        return rule not in self.left_out

    def turn(self, state):
        """Go over to a state; what was under way or to come again is let go."""
        self.now = state
        self.going = None
        self.coming = None
        self.pause = 0
        self.since = 0

    def put(self, text):
        """Put a text behind the changes, where it isn't the last one; what was to come again is let go then."""
        if text != self.texts[-1]:
            self.texts.append(text)
            self.coming = None
            self.pause = 0

    def ask_again(self, text):
        """Send a text with a new number."""
        self.own_number += 1
        self.going = text
        self.coming = None
        self.pause = 0
        return [("again", self.own_number, text)]

    def is_old(self, number):
        """Whether what is heard with this number is refused, since one as great was heard already."""
        return number <= self.heard_number and self.keeps("number")

    def count_heard(self, number):
        """Keep the greatest number heard; a greater one is a sign to an asked one that the other end is there."""
        if number > self.heard_number:
            self.heard_number = number
            if self.own_role == "asked":
                self.since = 0

    def beat_waiting(self):
        """A beat while its taking isn't held."""
        self.since += 1
        if self.since in TAKEN_BEATS:
            return [("taken",)]
        if self.since >= UNHELD and self.keeps("hold"):
            return self.end()
        return []

    def beat_standing(self):
        """A beat while it stands: the end goes first, then what comes again, then refreshing."""
        self.since += 1
        if self.own_role == "asked" and self.since >= UNHEARD and self.keeps("refresh"):
            return self.end()
        if self.coming is not None:
            return self.beat_coming()
        if self.own_role == "asker" and self.since >= REFRESHING and self.going is None:
            self.since = 0
            return self.ask_again(self.texts[-1])
        return []

    def beat_coming(self):
        """A beat while a change is to come again."""
        self.pause -= 1
        if self.pause > 0:
            return []
        return self.ask_again(self.coming)

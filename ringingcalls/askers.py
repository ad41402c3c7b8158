"""An asker's machine: what is done of one asking, until it is over."""

from ringingcalls.errors import NoSort, NoWord

SORTS = ("ring", "other")
ANSWERS = {"ring": ("rings", "taken", "no"), "other": ("done", "no")}
LIFE = 16
QUIET = 4
RINGING = 40
ASK_BEATS = {"ring": (1, 3, 7, 15), "other": (1, 3, 7, 11, 15)}


def look_at_sort(sort):
    """Refuse, of anything, what is no sort."""
    if not isinstance(sort, str) or sort not in SORTS:
        raise NoSort(sort)


def look_at_word(sort, word):
    """Refuse, of anything, what is no word of this sort's answers."""
    if not isinstance(word, str) or word not in ANSWERS[sort]:
        raise NoWord(word)


def bound(sort, state):
    """Behind how many beats an asker's state ends by itself."""
    if state == "goes":
        return RINGING
    if state == "ends" and sort == "other":
        return QUIET
    return LIFE


class Asker:
    """One asking, as its asker keeps it; each list that it tells says what is to be done."""

    def __init__(self, sort):
        look_at_sort(sort)
        self.own_sort = sort
        self.now = "calls"
        self.since = 0
        self.outcome = None
        self.marked = False
        self.counted = 0

    def beat(self):
        """One beat goes by."""
        self.counted += 1
        if self.now == "over":
            return []
        self.since += 1
        if self.now == "calls" and self.since in ASK_BEATS[self.own_sort]:
            return ["ask"]
        if self.since < bound(self.own_sort, self.now):
            return []
        return self.run_out()

    def hear(self, word):
        """An answer's word came."""
        look_at_word(self.own_sort, word)
        if self.now == "took":
            return ["up"] if word == "taken" else []
        if self.now == "ends":
            # The other end says its no until it hears a sure, and a sure may be lost.
            return ["sure"] if word == "no" and self.own_sort == "ring" else []
        if self.now == "over":
            return []
        if word == "rings":
            return self.hear_rings()
        return self.hear_end(word)

    def give_up(self):
        """The asking is given up."""
        if self.own_sort == "ring" and self.now == "goes":
            self.turn("waits")
            return ["stop"]
        if self.own_sort == "ring" and self.now == "calls":
            # A stop may not overtake its ring, so it is put off until the ring was heard of.
            self.marked = True
        return []

    def manner(self):
        """Its sort."""
        return self.own_sort

    def state(self):
        """Its state."""
        return self.now

    def end(self):
        """What it came to, None as long as it came to nothing."""
        return self.outcome

    def beats(self):
        """How many beats it was told in all."""
        return self.counted

    def twin(self):
        """Another one like it, which goes on by itself."""
        other = Asker(self.own_sort)
        other.now = self.now
        other.since = self.since
        other.outcome = self.outcome
        other.marked = self.marked
        other.counted = self.counted
        return other

    def traits(self):
        """What two alike ones have alike: the beats in all are none of it."""
        return (self.own_sort, self.now, self.since, self.outcome, self.marked)

    def __eq__(self, other):
        return isinstance(other, Asker) and self.traits() == other.traits()

    def turn(self, state):
        """Go over to a state, its beats counted from 0."""
        self.now = state
        self.since = 0

    def run_out(self):
        """The beats of its state are all over."""
        if self.now == "goes":
            self.turn("waits")
            return ["stop"]
        self.turn("over")
        if self.outcome is None:
            self.outcome = "late"
            return ["late"]
        return []

    def hear_rings(self):
        """It rings, and there is no end yet."""
        if self.now == "waits":
            return ["up"]
        if self.marked:
            self.turn("waits")
            return ["up", "stop"]
        self.turn("goes")
        return ["up"]

    def hear_end(self, word):
        """The answer that ends it came."""
        self.outcome = word
        self.turn("took" if word == "taken" else "ends")
        if word == "no" and self.own_sort == "ring":
            return ["sure", "up"]
        return ["up"]

"""An asked one's machine: what is said to one asking, and how often."""

from ringingcalls.askers import LIFE, QUIET, look_at_sort, look_at_word

SAY_BEATS = (1, 3, 7, 11, 15)


class Asked:
    """One asking, as the asked one keeps it; each list that it tells says whether the last thing said goes out."""

    def __init__(self, sort):
        look_at_sort(sort)
        self.own_sort = sort
        self.now = "goes"
        self.since = 0
        self.outcome = None
        self.spoke = False
        self.assured = False

    def say(self, word):
        """A word is said to the asking."""
        look_at_word(self.own_sort, word)
        if self.now == "took":
            return ["say"] if word == "taken" else []
        if self.now != "goes":
            return []
        self.spoke = True
        if word != "rings":
            self.outcome = word
            self.turn("took" if word == "taken" else "told")
        return ["say"]

    def hear_again(self):
        """The ask came again."""
        if self.now == "told" or (self.now == "goes" and self.spoke):
            return ["say"]
        return []

    def hear_sure(self):
        """A sure came."""
        if self.own_sort == "ring" and self.now == "told":
            self.assured = True
            self.turn("quiet")
        return []

    def beat(self):
        """One beat goes by."""
        if self.now in ("goes", "over"):
            return []
        self.since += 1
        if self.since >= self.bound_now():
            self.turn("over")
            return []
        # Of the other sort the asker asks again by itself, so nothing need be said unasked.
        if self.own_sort == "ring" and self.now == "told" and self.since in SAY_BEATS:
            return ["say"]
        return []

    def manner(self):
        """Its sort."""
        return self.own_sort

    def state(self):
        """Its state."""
        return self.now

    def end(self):
        """What was said at last, None as long as nothing that ends it was."""
        return self.outcome

    def is_sure(self):
        """Whether a sure was heard of its no."""
        return self.assured

    def twin(self):
        """Another one like it, which goes on by itself."""
        other = Asked(self.own_sort)
        other.now = self.now
        other.since = self.since
        other.outcome = self.outcome
        other.spoke = self.spoke
        other.assured = self.assured
        return other

    def traits(self):
        """What two alike ones have alike."""
        return (self.own_sort, self.now, self.since, self.outcome, self.spoke, self.assured)

    def __eq__(self, other):
        return isinstance(other, Asked) and self.traits() == other.traits()

    def turn(self, state):
        """Go over to a state, its beats counted from 0."""
        self.now = state
        self.since = 0

    def bound_now(self):
        """Behind how many beats its state ends by itself."""
        return QUIET if self.now == "quiet" else LIFE

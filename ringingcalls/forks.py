"""Forks: a house asks several targets, group by group, and joins what comes of them."""

from ringingcalls.ends import GIVEN_UP_RANK, LATE_RANK, TAKEN, best_no, is_shutting
from ringingcalls.errors import NoGroups, NoRank, NoTarget
from ringingcalls.things import is_rank, is_target

LARGEST_GROUP = 8


def is_group(thing):
    """Whether it is a tuple of one to eight targets, of anything."""
    if not isinstance(thing, tuple) or not 1 <= len(thing) <= LARGEST_GROUP:
        return False
    return all([is_target(target) for target in thing])


def targets_of(groups):
    """All targets of the groups, in order."""
    return [target for group in groups for target in group]


def is_groups(thing):
    """Whether it is a tuple of one or more groups, all targets unlike, of anything."""
    if not isinstance(thing, tuple) or len(thing) == 0:
        return False
    if not all([is_group(group) for group in thing]):
        return False
    return len(set(targets_of(thing))) == len(targets_of(thing))


class Fork:
    """The asking of several targets; each list that it tells says what is to be done."""

    def __init__(self, groups):
        if not is_groups(groups):
            raise NoGroups(groups)
        self.rows = groups
        self.begun = False
        self.shut = False
        self.reached = 0
        self.results = {}

    def begin(self):
        """It begins."""
        if self.begun:
            return []
        self.begun = True
        if self.shut:
            return [("no", GIVEN_UP_RANK)]
        return self.ask_group()

    def rings(self, target):
        """It rings at a target."""
        self.look_at_target(target)
        return [] if target in self.results else [("rings", target)]

    def taken(self, target):
        """A target took it."""
        self.look_at_target(target)
        if target not in self.results:
            self.results[target] = TAKEN
            return [("taken", target)] + self.close()
        return [("taken", target)] if self.results[target] == TAKEN else []

    def no(self, target, rank):
        """A target answered no."""
        self.look_at_target(target)
        if not is_rank(rank):
            raise NoRank(rank)
        if target in self.results:
            return []
        self.results[target] = rank
        stops = self.close() if is_shutting(rank) else []
        return stops + self.go_on()

    def late(self, target):
        """Nothing came of a target in time."""
        return self.no(target, LATE_RANK)

    def give_up(self):
        """It is given up."""
        return self.close()

    def asked(self):
        """The targets asked, in order."""
        return targets_of(self.rows[:self.reached])

    def ends(self):
        """The ends that came, by targets."""
        return {target: self.results[target] for target in self.results}

    def is_over(self):
        """Whether it began, all asked have an end, and nothing more will be asked."""
        # Where a further group is to be asked, that is done with the last end of the one ahead.
        return self.begun and not self.unended()

    def best(self):
        """The best rank so far, None where there is none."""
        return best_no([self.results[target] for target in self.results if self.results[target] != TAKEN])

    def twin(self):
        """Another one like it, which goes on by itself."""
        other = Fork(self.rows)
        other.begun = self.begun
        other.shut = self.shut
        other.reached = self.reached
        other.results = self.ends()
        return other

    def traits(self):
        """What two alike ones have alike; once it is over, why nothing more was asked is none of it."""
        over = self.is_over()
        return (self.rows, self.asked(), self.results, self.begun, over, self.shut and not over)

    def __eq__(self, other):
        return isinstance(other, Fork) and self.traits() == other.traits()

    def look_at_target(self, target):
        """Refuse, of anything, what is none of the targets asked."""
        if not is_target(target) or target not in self.asked():
            raise NoTarget(target)

    def unended(self):
        """The targets asked that have no end, in order."""
        return [target for target in self.asked() if target not in self.results]

    def has_group_left(self):
        """Whether a group wasn't asked yet."""
        return self.reached < len(self.rows)

    def is_taken(self):
        """Whether some target took it."""
        return any([self.results[target] == TAKEN for target in self.results])

    def ask_group(self):
        """Ask the next group."""
        group = self.rows[self.reached]
        self.reached += 1
        return [("ask", target) for target in group]

    def close(self):
        """Ask no further group; stop, the first time, what has no end."""
        if self.shut:
            return []
        self.shut = True
        return [("stop", target) for target in self.unended()]

    def go_on(self):
        """What is due behind a no: the next group, or the best no, once all asked have an end."""
        if self.unended():
            return []
        if not self.shut and self.has_group_left():
            return self.ask_group()
        return [] if self.is_taken() else [("no", self.best())]

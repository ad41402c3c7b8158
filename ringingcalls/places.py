"""Places: at which targets persons are, with which weights, and for how long."""

from ringingcalls.errors import NoName, NoNumber, NoTarget, TooMany
from ringingcalls.letters import fits_place
from ringingcalls.things import is_name, is_target

MOST_TARGETS = 8


class Places:
    """Targets of persons, each with a weight and the beats that are left to it."""

    def __init__(self):
        self.entries = {}

    def tell(self, person, target, weight, beats):
        """A person is at a target, with a weight, for so many beats; for none it goes."""
        if not is_name(person):
            raise NoName(person)
        if not is_target(target):
            raise NoTarget(target)
        if not fits_place(weight, "weight"):
            raise NoNumber(weight)
        if not fits_place(beats, "beats"):
            raise NoNumber(beats)
        key = (person, target)
        if beats > 0:
            self.put(key, weight, beats)
        elif key in self.entries:
            del self.entries[key]

    def beat(self):
        """One beat goes by; what has none left goes."""
        self.entries = {
            key: (weight, beats - 1) for key, (weight, beats) in self.entries.items() if beats > 1
        }

    def groups(self, person):
        """The targets of a person, in tuples by weight, the greatest first; () of anything else."""
        if not is_name(person):
            return ()
        by_weight = {}
        for target in sorted(self.targets(person)):
            by_weight.setdefault(self.entries[(person, target)][0], []).append(target)
        return tuple([tuple(by_weight[weight]) for weight in sorted(list(by_weight), reverse=True)])

    def persons(self):
        """The persons who are somewhere, sorted."""
        return sorted({person for person, target in self.entries})

    def left(self, person, target):
        """How many beats a target of a person has left; 0 of anything else."""
        if not is_name(person) or not is_target(target):
            return 0
        weight, beats = self.entries.get((person, target), (0, 0))
        return beats

    def twin(self):
        """Another one like it, which goes on by itself."""
        other = Places()
        other.entries = {key: self.entries[key] for key in self.entries}
        return other

    def __len__(self):
        return len(self.entries)

    def __eq__(self, other):
        return isinstance(other, Places) and self.entries == other.entries

    def targets(self, person):
        """The targets of a person, in no told order."""
        return [target for who, target in self.entries if who == person]

    def put(self, key, weight, beats):
        """Keep a telling in the stead of the elder one of its person and target."""
        if key not in self.entries and len(self.targets(key[0])) >= MOST_TARGETS:
            raise TooMany(MOST_TARGETS + 1)
        self.entries[key] = (weight, beats)

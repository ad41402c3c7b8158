"""Rules: for each one a weaving that goes wrong without it.

Each is for a World of devices ann, bob, cat and a house hub that stays. Letters
are numbered as they are laid, so the numbers in these deeds hang on all deeds ahead.
"""

from ringingcalls.errors import NoRule
from ringingcalls.worlds import is_rule

ROUNDS = 200
CALL = ("ann", 0)
TALK = (("ann", 0), "bob", 0)
BEAT = ("beat",)
CALM = ("calm", 1)


def ringing(*devices):
    """ann calls zoe, who is at these devices, and it rings at all of them."""
    placed = [("place", "hub", "zoe", ("device", name), 5, 999) for name in devices]
    return placed + [("call", "ann", "zoe", "hub", "hello"), CALM]


def talking():
    """ann calls, bob takes, and the talk stands at both ends; letters 0 to 8 were laid."""
    return ringing("bob") + [("take", "bob", CALL), CALM]


def losing(first, beats):
    """A letter with the number first and those that follow it, one laid at each of these beats, are lost."""
    deeds = [("lose", first)]
    number = first
    for beat in range(1, max(beats) + 1):
        deeds.append(BEAT)
        if beat in beats:
            number += 1
            deeds.append(("lose", number))
    return deeds


def carrying(*numbers):
    """The letters of these numbers are carried."""
    return [("carry", number) for number in numbers]


def without_hold():
    """bob takes, but no taking comes to the house: his Talk waits for good."""
    return ringing("bob") + [("take", "bob", CALL)] + losing(5, (1, 3, 7, 11, 15))


def without_extra():
    """bob and cat both take: ann talks with both."""
    return ringing("bob", "cat") + [("take", "bob", CALL), ("take", "cat", CALL)]


def without_given():
    """bob takes while ann gives up: they talk all the same."""
    return ringing("bob") + [("take", "bob", CALL), ("give", "ann", 0)]


def without_refresh():
    """ann ends the talk, but no bye of hers comes to the house: bob's Talk stands for good."""
    return talking() + [("end", "ann", TALK)] + losing(9, (1, 3, 7, 11, 15)) + [BEAT]


def without_late():
    """bob does ann's change, but his answer is lost: ann lets it go, so it is missing at her end alone."""
    lost = [("change", "ann", TALK, "warm"), ("carry", 9), ("carry", 10), ("lose", 11)]
    return talking() + lost + [BEAT] * 16 + [("change", "bob", TALK, "cool")]


def without_glare():
    """Two changes cross: each end does its own one last."""
    return talking() + [("change", "ann", TALK, "warm"), ("change", "bob", TALK, "cool")]


def without_number():
    """A copy of a change comes behind the next change, when bob has forgotten its asking: he does it anew."""
    doubled = [("change", "ann", TALK, "warm"), ("carry", 9), ("double", 10)] + carrying(10, 12, 13)
    behind = [("change", "ann", TALK, "cool")] + carrying(14, 15, 16, 17) + [("carry", 11)]
    return talking() + doubled + [BEAT] * 17 + behind + [("change", "ann", TALK, "dry")]


WEAVINGS = {
    "hold": without_hold,
    "extra": without_extra,
    "given": without_given,
    "refresh": without_refresh,
    "late": without_late,
    "glare": without_glare,
    "number": without_number,
}


def breaking(rule):
    """Deeds that go wrong without the rule, and behind how many calm rounds this shows."""
    if not is_rule(rule):
        raise NoRule(rule)
    weaving = WEAVINGS[rule]
    return (weaving(), ROUNDS)

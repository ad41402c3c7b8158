"""Things that letters are made of: numbers, names, ranks, calls, talks, targets, paths.

Each look answers of anything. A thing is compared only once its kind is known,
since a foreign object may answer to == as it likes.
"""

SMALL_LETTERS = "abcdefghijklmnopqrstuvwxyz"
LONGEST_NAME = 8
LONGEST_PATH = 8
LEAST_RANK = 300
MOST_RANK = 699


def is_whole(thing):
    """Whether it is a whole number from 0 on."""
    # True and False are ints to Python, but no whole numbers here.
    return isinstance(thing, int) and not isinstance(thing, bool) and thing >= 0


def is_count(thing, most):
    """Whether it is a whole number from 0 to most; none is where most is no such number itself."""
    return is_whole(thing) and is_whole(most) and thing <= most


def is_name(thing):
    """Whether it is a text of one to eight small letters."""
    if not isinstance(thing, str) or not 1 <= len(thing) <= LONGEST_NAME:
        return False
    return all([sign in SMALL_LETTERS for sign in thing])


def is_rank(thing):
    """Whether it is a whole number from 300 to 699."""
    return is_count(thing, MOST_RANK) and thing >= LEAST_RANK


def is_call(thing):
    """Whether it is a tuple (device, number)."""
    return isinstance(thing, tuple) and len(thing) == 2 and is_name(thing[0]) and is_whole(thing[1])


def is_talk(thing):
    """Whether it is a tuple (call, device, number), the device another one than the call's."""
    if not isinstance(thing, tuple) or len(thing) != 3 or not is_call(thing[0]):
        return False
    return is_name(thing[1]) and thing[1] != thing[0][0] and is_whole(thing[2])


def is_target(thing):
    """Whether it is ("device", name) or ("person", person, house)."""
    if not isinstance(thing, tuple) or len(thing) < 2 or not isinstance(thing[0], str):
        return False
    if thing[0] == "device":
        return len(thing) == 2 and is_name(thing[1])
    return thing[0] == "person" and len(thing) == 3 and is_name(thing[1]) and is_name(thing[2])


def is_path(thing):
    """Whether it is a tuple of at most eight unlike names; a way is one likewise."""
    if not isinstance(thing, tuple) or len(thing) > LONGEST_PATH:
        return False
    return all([is_name(name) for name in thing]) and len(set(thing)) == len(thing)

"""Letters: what is one, and how names in it are led otherwise."""

from ringingcalls.errors import NoNames
from ringingcalls.things import is_call, is_count, is_name, is_path, is_rank, is_talk, is_whole

KINDS = ("ring", "stop", "bye", "again", "here")

# These say, place by place, what stands in a letter. Looking at letters and leading
# them both go by them, so that the two cannot come apart.
ASKINGS = {
    "ring": ("call", "name", "hops", "path", "text"),
    "stop": ("number",),
    "bye": ("talk", "turn", "path"),
    "again": ("talk", "turn", "path", "text"),
    "here": ("name", "weight", "beats"),
}
SAYINGS = {
    "rings": ("name", "path"),
    "taken": ("name", "number", "path"),
    "no": ("rank",),
    "done": (),
}
SURE = ("number",)
HELD = ("talk", "path")
MOST = {"hops": 9, "weight": 9, "beats": 999}


def fits_place(thing, place):
    """Whether it is such a thing as the place is for, of anything."""
    if place in MOST:
        return is_count(thing, MOST[place])
    if place == "number":
        return is_whole(thing)
    if place == "turn":
        return is_whole(thing) and thing >= 1
    if place == "rank":
        return is_rank(thing)
    if place == "call":
        return is_call(thing)
    if place == "talk":
        return is_talk(thing)
    if place == "path":
        return is_path(thing)
    return is_name(thing)


def fits(things, places):
    """Whether it is a tuple of one fitting thing for each place, of anything."""
    if not isinstance(things, tuple) or len(things) != len(places):
        return False
    return all([fits_place(thing, place) for thing, place in zip(things, places)])


def has_ends(thing):
    """Whether a tuple begins with a text and two unlike names."""
    if len(thing) < 3 or not isinstance(thing[0], str):
        return False
    return is_name(thing[1]) and is_name(thing[2]) and thing[1] != thing[2]


def is_asking(kind, what):
    """Whether it is a kind of ask with what belongs to it, of anything."""
    return isinstance(kind, str) and kind in ASKINGS and fits(what, ASKINGS[kind])


def is_answer(what):
    """Whether it is an answer's word with what belongs to it, of anything."""
    if not isinstance(what, tuple) or len(what) == 0 or not isinstance(what[0], str):
        return False
    return what[0] in SAYINGS and fits(what[1:], SAYINGS[what[0]])


def is_letter(thing):
    """Whether it is a letter, of anything."""
    if not isinstance(thing, tuple) or not has_ends(thing):
        return False
    word = thing[0]
    rest = thing[3:]
    if word == "ask":
        return len(rest) == 3 and is_whole(rest[0]) and is_asking(rest[1], rest[2])
    if word == "answer":
        return len(rest) == 2 and is_whole(rest[0]) and is_answer(rest[1])
    if word == "sure":
        return fits(rest, SURE)
    return word == "held" and fits(rest, HELD)


def look_at_names(thing):
    """Refuse, of anything, what is no dict of names to names, or leads two to one."""
    if not isinstance(thing, dict):
        raise NoNames(thing)
    if not all([is_name(name) and is_name(thing[name]) for name in thing]):
        raise NoNames(thing)
    if len({thing[name] for name in thing}) != len(thing):
        raise NoNames(thing)


def name_led(name, names):
    """The name that stands for it by a good dict: itself where it is no key."""
    return names.get(name, name)


def call_named(call, names):
    """The call, its device led by the dict of names."""
    look_at_names(names)
    device, number = call
    return (name_led(device, names), number)


def talk_named(talk, names):
    """The talk, both its devices led by the dict of names."""
    look_at_names(names)
    call, device, number = talk
    return (call_named(call, names), name_led(device, names), number)


def place_led(thing, place, names):
    """What stands at a place, its names led by a good dict; texts and numbers stay."""
    if place == "name":
        return name_led(thing, names)
    if place == "call":
        return call_named(thing, names)
    if place == "talk":
        return talk_named(thing, names)
    if place == "path":
        return tuple([name_led(name, names) for name in thing])
    return thing


def places_led(things, places, names):
    """A tuple of what stands at the places, led by a good dict."""
    return tuple([place_led(thing, place, names) for thing, place in zip(things, places)])


def led(letter, names):
    """The letter, all its names but texts led by the dict of names."""
    look_at_names(names)
    word, sender, receiver, *rest = letter
    head = (word, name_led(sender, names), name_led(receiver, names))
    if word == "ask":
        number, kind, what = rest
        return (*head, number, kind, places_led(what, ASKINGS[kind], names))
    if word == "answer":
        number, what = rest
        said = what[0]
        return (*head, number, (said, *places_led(what[1:], SAYINGS[said], names)))
    if word == "sure":
        return (*head, *rest)
    return (*head, *places_led(rest, HELD, names))

"""Texts: letters and weavings written as words in rows, and read back."""

from ringingcalls.errors import NoText, NoWorld
from ringingcalls.letters import ASKINGS, HELD, SAYINGS, SURE, is_letter
from ringingcalls.things import is_call, is_name, is_path, is_talk, is_target
from ringingcalls.worlds import DEEDS, is_deed, look_at_world

FIGURES = "0123456789"
MOST_FIGURES = 9
NOTHING = "-"
PASSING = "passing"
# In which order the rows of a weaving stand.
ROW_ORDER = ("device", "house", "deed")


def show_call(call):
    """A call as a word."""
    device, number = call
    return f"{device}/{number}"


def show_talk(talk):
    """A talk as a word."""
    call, device, number = talk
    return f"{show_call(call)}/{device}/{number}"


def show_place(thing, place):
    """What stands at a place as a word."""
    if place == "call":
        return show_call(thing)
    if place == "talk":
        return show_talk(thing)
    if place == "path":
        return ",".join(thing) if thing else NOTHING
    if place == "target":
        return "@".join(thing[1:])
    return str(thing)


def show_places(things, places):
    """What stands at the places, as words."""
    return [show_place(thing, place) for thing, place in zip(things, places)]


def show_letter(letter):
    """A letter as a text."""
    word, sender, receiver, *rest = letter
    if word == "ask":
        number, kind, what = rest
        words = [str(number), kind] + show_places(what, ASKINGS[kind])
    elif word == "answer":
        number, what = rest
        words = [str(number), what[0]] + show_places(what[1:], SAYINGS[what[0]])
    else:
        words = show_places(rest, SURE if word == "sure" else HELD)
    return " ".join([sender, receiver, word] + words)


def show_house(name, stays):
    """A house as a row."""
    return f"house {name}" if stays else f"house {name} {PASSING}"


def show_deed(deed):
    """A deed as a row."""
    word, *things = deed
    return " ".join([word] + show_places(things, DEEDS[word]))


def show_weaving(devices, houses, deeds):
    """A weaving as a text."""
    rows = [f"device {name}" for name in devices]
    rows.extend([show_house(name, stays) for name, stays in houses])
    rows.extend([show_deed(deed) for deed in deeds])
    return "\n".join(rows)


def read_number(word):
    """The number that a word tells, None where it tells none."""
    if not 1 <= len(word) <= MOST_FIGURES or not all([sign in FIGURES for sign in word]):
        return None
    return None if word[0] == "0" and word != "0" else int(word)


def read_call(word):
    """The call that a word tells, None where it tells none."""
    parts = word.split("/")
    if len(parts) != 2:
        return None
    call = (parts[0], read_number(parts[1]))
    return call if is_call(call) else None


def read_talk(word):
    """The talk that a word tells, None where it tells none."""
    parts = word.split("/")
    if len(parts) != 4:
        return None
    talk = ((parts[0], read_number(parts[1])), parts[2], read_number(parts[3]))
    return talk if is_talk(talk) else None


def read_path(word):
    """The path or way that a word tells, None where it tells none."""
    path = () if word == NOTHING else tuple(word.split(","))
    return path if is_path(path) else None


def read_target(word):
    """The target that a word tells, None where it tells none."""
    parts = word.split("@")
    target = ("device", word) if len(parts) == 1 else ("person", *parts)
    return target if is_target(target) else None


def read_place(word, place):
    """What a word tells at a place, None where it tells nothing that can stand there."""
    if place == "call":
        return read_call(word)
    if place == "talk":
        return read_talk(word)
    if place == "path":
        return read_path(word)
    if place == "target":
        return read_target(word)
    if place in ("name", "text"):
        return word if is_name(word) else None
    return read_number(word)


def read_places(words, places):
    """A tuple of what the words tell, one for each place, None where they don't."""
    if len(words) != len(places):
        return None
    things = [read_place(word, place) for word, place in zip(words, places)]
    return None if any([thing is None for thing in things]) else tuple(things)


def read_numbered(word, words):
    """What stands in an ask or an answer behind its ends, None where the words don't tell it."""
    if len(words) < 2:
        return None
    number = read_number(words[0])
    places = ASKINGS.get(words[1]) if word == "ask" else SAYINGS.get(words[1])
    if number is None or places is None:
        return None
    things = read_places(words[2:], places)
    if things is None:
        return None
    return (number, words[1], things) if word == "ask" else (number, (words[1], *things))


def read_tail(word, words):
    """What stands in a letter behind its ends, None where the words don't tell it."""
    if word in ("ask", "answer"):
        return read_numbered(word, words)
    if word == "sure":
        return read_places(words, SURE)
    return read_places(words, HELD) if word == "held" else None


def read_letter(text):
    """The letter that a text tells."""
    words = text.split(" ") if isinstance(text, str) else []
    if len(words) < 3:
        raise NoText(0)
    tail = read_tail(words[2], words[3:])
    if tail is None:
        raise NoText(0)
    letter = (words[2], words[0], words[1], *tail)
    if not is_letter(letter):
        raise NoText(0)
    return letter


def read_deed(row):
    """The deed that a row tells, None where it tells none."""
    word, *words = row.split(" ")
    if word not in DEEDS:
        return None
    things = read_places(words, DEEDS[word])
    if things is None:
        return None
    deed = (word, *things)
    return deed if is_deed(deed) else None


def read_row(row):
    """What a row of a weaving tells, as (one of ROW_ORDER, that thing), None where it tells none."""
    word, *words = row.split(" ")
    if word == "device":
        return ("device", words[0]) if len(words) == 1 and is_name(words[0]) else None
    if word == "house":
        stays = len(words) == 1
        told = (stays or words[1:] == [PASSING]) and is_name(words[0])
        return ("house", (words[0], stays)) if told else None
    deed = read_deed(row)
    return None if deed is None else ("deed", deed)


def read_weaving(text):
    """The weaving that a text tells: devices, houses, deeds."""
    if not isinstance(text, str):
        raise NoText(0)
    found = {word: [] for word in ROW_ORDER}
    reached = 0
    for at, row in enumerate(text.split("\n")):
        told = read_row(row)
        if told is None or ROW_ORDER.index(told[0]) < reached:
            raise NoText(at)
        reached = ROW_ORDER.index(told[0])
        found[told[0]].append(told[1])
    try:
        look_at_world(found["device"], found["house"])
    except NoWorld:
        raise NoText(None) from None
    return (found["device"], found["house"], found["deed"])

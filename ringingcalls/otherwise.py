"""Otherwise: deeds in which devices, houses and persons are called by other names."""

from ringingcalls.errors import NoDeed
from ringingcalls.letters import call_named, look_at_names, name_led, talk_named
from ringingcalls.things import is_call, is_name, is_talk, is_target
from ringingcalls.worlds import DEEDS, is_deed


def thing_led(thing, place, names):
    """What stands at a place of a deed, its names led by a good dict; what is none of the place's things stays."""
    if place == "name" and is_name(thing):
        return name_led(thing, names)
    if place == "call" and is_call(thing):
        return call_named(thing, names)
    if place == "talk" and is_talk(thing):
        return talk_named(thing, names)
    if place == "target" and is_target(thing):
        return (thing[0],) + tuple([name_led(name, names) for name in thing[1:]])
    return thing


def deed_led(deed, names):
    """A deed, its names but texts led by a good dict."""
    word, *things = deed
    return (word,) + tuple([thing_led(thing, place, names) for thing, place in zip(things, DEEDS[word])])


def deeds_led(deeds, names):
    """The deeds, in a new list, their names but texts led by the dict of names."""
    if not isinstance(deeds, list) or not all([is_deed(deed) for deed in deeds]):
        raise NoDeed(deeds)
    look_at_names(names)
    return [deed_led(deed, names) for deed in deeds]

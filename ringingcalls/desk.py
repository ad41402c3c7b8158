"""A desk: Worlds by names, told rows of words and answering each with a text."""

from ringingcalls.errors import NoName, NoRow, NoTalk, NoText, TooMany
from ringingcalls.texts import read_deed, read_talk, read_weaving, show_letter, show_talk
from ringingcalls.things import is_name
from ringingcalls.worlds import World

NOTHING = "-"
MOST_WORLDS = 8
# How many words a row has, but those whose last thing is all that follows.
LENGTHS = {"names": 1, "drop": 2, "letters": 2, "talks": 2, "hanging": 2, "kept": 2, "beats": 2, "changes": 4}


def joined(words, between):
    """The words in one text, or the sign of none."""
    return between.join(words) if words else NOTHING


def words_of_row(row):
    """The words of a row; of world and do the third one is all that follows."""
    if not isinstance(row, str) or "\n" in row:
        raise NoRow("a row is a text without line feeds")
    words = row.split(" ")
    if words[0] == "world":
        words = row.split(" ", 2)
        if len(words) != 3 or words[1] == "":
            raise NoRow("a world has a name and a text")
        return words
    if any([word == "" for word in words]):
        raise NoRow("words are parted by one blank each")
    if words[0] == "do" and len(words) > 2:
        return words[:2] + [" ".join(words[2:])]
    if words[0] not in LENGTHS or len(words) != LENGTHS[words[0]]:
        raise NoRow("no such row")
    return words


def look_at_words(words):
    """Refuse a device and a talk that are none by their form."""
    if words[0] == "changes" and (not is_name(words[2]) or read_talk(words[3]) is None):
        raise NoRow("changes are of a device and a talk")


class Desk:
    """Worlds by names."""

    def __init__(self):
        self.worlds = {}

    def say(self, row):
        """Tell it a row; its answer is told."""
        words = words_of_row(row)
        look_at_words(words)
        if words[0] == "names":
            return joined(sorted(list(self.worlds)), " ")
        name = words[1]
        if not is_name(name) or (words[0] != "world" and name not in self.worlds):
            raise NoName(name)
        if words[0] == "world":
            return self.keep_world(name, words[2])
        if words[0] == "drop":
            del self.worlds[name]
            return "ok"
        if words[0] == "do":
            return self.do_deed(self.worlds[name], words[2])
        if words[0] == "changes":
            return self.show_changes(self.worlds[name], words[2], read_talk(words[3]))
        return self.show_world(self.worlds[name], words[0])

    def __len__(self):
        return len(self.worlds)

    def keep_world(self, name, text):
        """Keep the World of a weaving, its deeds done."""
        devices, houses, deeds = read_weaving(text.replace("; ", "\n"))
        world = World(devices, houses)
        world.play(deeds)
        if name not in self.worlds and len(self.worlds) >= MOST_WORLDS:
            raise TooMany(MOST_WORLDS + 1)
        self.worlds[name] = world
        return "ok"

    def do_deed(self, world, row):
        """Do a deed; the numbers of the letters laid are told."""
        deed = read_deed(row)
        if deed is None:
            raise NoText(0)
        return joined([str(number) for number in world.do(deed)], " ")

    def show_changes(self, world, device, talk):
        """The changes of a talk at a device."""
        talks = world.device(device).talks()
        if talk not in talks:
            raise NoTalk(talk)
        return joined(talks[talk].changes(), " ")

    def show_world(self, world, word):
        """What a World tells by this word."""
        if word == "letters":
            return joined([f"{number} {show_letter(letter)}" for number, letter in world.letters()], " ; ")
        if word == "talks":
            return joined([f"{show_talk(talk)} {asker} {asked}" for talk, asker, asked in world.talks()], " ; ")
        if word == "hanging":
            return joined([show_talk(talk) for talk in world.hanging()], " ")
        return str(world.kept() if word == "kept" else world.beats())

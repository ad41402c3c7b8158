"""What several tests of ringingcalls need: odd things, sample letters, and their variants."""


class Contrary:
    """An object that refuses to be compared, hashed, counted or walked."""

    def __eq__(self, other):
        raise AssertionError("compared")

    def __hash__(self):
        raise AssertionError("hashed")

    def __len__(self):
        raise AssertionError("counted")

    def __iter__(self):
        raise AssertionError("walked")

    def __bool__(self):
        raise AssertionError("taken for a truth")

    def __repr__(self):
        return "Contrary()"


class Agreeing:
    """An object that is alike to everything."""

    def __eq__(self, other):
        return True

    def __hash__(self):
        return 0


def nothing():
    """A function, as a thing that is handed in."""


# None of these is a number, a name, a call, a talk, a target or a path, nor may stand anywhere in a letter.
ODD = [
    None, True, False, -1, "", "Ann", "ann1", "an n", "an-n", " ann", "ann\n", "abcdefghi", "0",
    b"ann", b"", [], ["ann"], [()], {}, {"ann": "bob"}, set(), frozenset(), nothing, len, object, object(),
    Contrary(), Agreeing(), (None,), ((),), ([],), ("ann", "ann"), ("Ann",), ("", ""), (Contrary(),), (Agreeing(),),
]

CALL = ("ann", 0)
TALK = (("ann", 3), "bob", 2)
EIGHT = ("a", "b", "c", "d", "e", "f", "g", "h")

ASKS = [
    ("ask", "ann", "hub", 0, "ring", (CALL, "zoe", 9, (), "hello")),
    ("ask", "hub", "den", 7, "ring", (("cat", 12), "zoe", 0, ("hub", "inn"), "hello")),
    ("ask", "ann", "hub", 1, "stop", (0,)),
    ("ask", "ann", "hub", 2, "bye", (TALK, 1, ())),
    ("ask", "ann", "hub", 2, "bye", (TALK, 4, ("den", "bob"))),
    ("ask", "bob", "hub", 3, "again", (TALK, 1, (), "warm")),
    ("ask", "bob", "hub", 3, "again", (TALK, 9, ("hub", "ann"), "warm")),
    ("ask", "bob", "hub", 4, "here", ("zoe", 9, 999)),
    ("ask", "bob", "hub", 5, "here", ("zoe", 0, 0)),
]
ANSWERS = [
    ("answer", "hub", "ann", 0, ("rings", "bob", ())),
    ("answer", "hub", "ann", 0, ("rings", "bob", ("hub", "den"))),
    ("answer", "hub", "ann", 1, ("taken", "bob", 0, ())),
    ("answer", "hub", "ann", 1, ("taken", "bob", 5, ("hub",))),
    ("answer", "hub", "ann", 2, ("no", 487)),
    ("answer", "hub", "ann", 3, ("done",)),
]
OTHERS = [
    ("sure", "ann", "hub", 0),
    ("held", "ann", "hub", TALK, ()),
    ("held", "ann", "hub", TALK, ("den", "bob")),
]
LETTERS = ASKS + ANSWERS + OTHERS


def put(thing, at, worth):
    """The tuple with another thing at a place, at being the indexes that lead there."""
    if not at:
        return worth
    first = at[0]
    return thing[:first] + (put(thing[first], at[1:], worth),) + thing[first + 1:]


def places(thing):
    """The indexes that lead to each place within the tuple, those in tuples within it too."""
    found = []
    for first, inner in enumerate(thing):
        found.append((first,))
        if isinstance(inner, tuple):
            found.extend([(first,) + more for more in places(inner)])
    return found


def told(thing, at):
    """What stands where the indexes lead."""
    for first in at:
        thing = thing[first]
    return thing


def without(thing, at):
    """The tuple with the item left out to which the indexes lead."""
    outer = told(thing, at[:-1])
    return put(thing, at[:-1], outer[:at[-1]] + outer[at[-1] + 1:])


def twice(thing, at):
    """The tuple with the item twice to which the indexes lead."""
    outer = told(thing, at[:-1])
    return put(thing, at[:-1], outer[:at[-1] + 1] + outer[at[-1]:])


def as_lists(thing):
    """The thing with a list in the stead of a tuple, once for each tuple in it."""
    made = [list(thing)]
    for at in places(thing):
        if isinstance(told(thing, at), tuple):
            made.append(put(thing, at, list(told(thing, at))))
    return made


# No sorts, words or roles, of anything: what is odd, and what is none of these though a name, a number or a tuple.
STRANGE = ODD + [
    0, 1, 408, 1.5, "ann", "Ring", "rings ", "ask", "stop", "sure", "up", "late", "over", "ring\n", ("ring",), ("taken",),
    ["ring"], {"ring": "taken"}, b"ring", b"no",
]


def beats(many):
    """So many beats, as deeds."""
    return [("beat",)] * many


def do(machine, deed):
    """Tell a machine one deed: a tuple of a method's name and its arguments."""
    return getattr(machine, deed[0])(*deed[1:])


def done(machine, deeds):
    """The machine, behind the deeds."""
    for deed in deeds:
        do(machine, deed)
    return machine


def spoil(thing):
    """Change a list or a dict that was told, as its asker may."""
    thing.clear()
    if isinstance(thing, list):
        thing.append("spoilt")
    else:
        thing["spoilt"] = "spoilt"

"""The interface: each name is there, takes its arguments by their names, and stands in its class itself."""

import importlib
import inspect
import unittest

# Of each module: its functions and classes, each with its arguments' names; those behind a bare * have a * ahead.
FUNCTIONS = {
    "things": {
        "is_whole": "thing", "is_count": "thing most", "is_name": "thing", "is_rank": "thing", "is_call": "thing",
        "is_talk": "thing", "is_target": "thing", "is_path": "thing",
    },
    "letters": {
        "is_letter": "thing", "look_at_names": "thing", "led": "letter names", "call_named": "call names",
        "talk_named": "talk names",
    },
    "pairs": {"pair_ends": "sort lost"},
    "worlds": {"is_deed": "thing"},
    "rules": {"breaking": "rule"},
    "otherwise": {"deeds_led": "deeds names"},
    "texts": {
        "show_letter": "letter", "show_weaving": "devices houses deeds", "read_letter": "text", "read_weaving": "text",
    },
}
CLASSES = {
    "askers": {"Asker": {
        "__init__": "sort", "beat": "", "hear": "word", "give_up": "", "manner": "", "state": "", "end": "", "beats": "",
        "twin": "", "__eq__": "other",
    }},
    "askeds": {"Asked": {
        "__init__": "sort", "say": "word", "hear_again": "", "hear_sure": "", "beat": "", "manner": "", "state": "",
        "end": "", "is_sure": "", "twin": "", "__eq__": "other",
    }},
    "forks": {"Fork": {
        "__init__": "groups", "begin": "", "rings": "target", "taken": "target", "no": "target rank", "late": "target",
        "give_up": "", "asked": "", "ends": "", "is_over": "", "best": "", "twin": "", "__eq__": "other",
    }},
    "places": {"Places": {
        "__init__": "", "tell": "person target weight beats", "beat": "", "groups": "person", "persons": "",
        "left": "person target", "twin": "", "__len__": "", "__eq__": "other",
    }},
    "talks": {"Talk": {
        "__init__": "role text *without", "held": "", "end": "", "change": "text", "answered": "answer", "gone": "",
        "beat": "", "hear_again": "number text", "hear_bye": "number", "role": "", "state": "", "changes": "",
        "numbers": "", "under_way": "", "to_come": "", "twin": "", "__eq__": "other",
    }},
    "devices": {"Device": {
        "__init__": "name *without", "call": "person house text", "give_up": "number", "here": "person house weight beats",
        "take": "call", "refuse": "call rank", "end": "talk", "change": "talk text", "hear": "letter", "beat": "",
        "name": "", "calls": "", "rings": "", "talks": "", "kept": "", "askers": "", "askeds": "", "twin": "",
        "__eq__": "other",
    }},
    "houses": {"House": {
        "__init__": "name *stays", "hear": "letter", "beat": "", "place": "person target weight beats", "name": "",
        "stays": "", "places": "", "forks": "", "kept": "", "askers": "", "askeds": "", "twin": "", "__eq__": "other",
    }},
    "worlds": {"World": {
        "__init__": "devices houses *without", "do": "deed", "play": "deeds", "letters": "", "talks": "", "hanging": "",
        "devices": "", "houses": "", "device": "name", "house": "name", "beats": "", "kept": "", "is_settled": "",
        "twin": "", "__eq__": "other",
    }},
    "desk": {"Desk": {"__init__": "", "say": "row", "__len__": ""}},
}
# What may be left out, of each class and what it is then.
LEFT_OUT = {
    ("talks", "Talk"): {"without": ()}, ("devices", "Device"): {"without": ()}, ("houses", "House"): {"stays": True},
    ("worlds", "World"): {"without": ()},
}


def arguments(function):
    """The names of a function's arguments, in order."""
    told = []
    for name, parameter in inspect.signature(function).parameters.items():
        told.append("*" + name if parameter.kind == parameter.KEYWORD_ONLY else name)
    return told


def defaults(function):
    """What arguments of a function that may be left out are then, by names."""
    told = inspect.signature(function).parameters.items()
    return {name: parameter.default for name, parameter in told if parameter.default != parameter.empty}


class Interface(unittest.TestCase):
    def test_functions(self):
        for module, functions in FUNCTIONS.items():
            for name, names in functions.items():
                function = getattr(importlib.import_module("ringingcalls." + module), name)
                self.assertEqual(arguments(function), names.split(), (module, name))

    def test_methods_stand_in_their_class(self):
        for module, classes in CLASSES.items():
            for name, methods in classes.items():
                owner = getattr(importlib.import_module("ringingcalls." + module), name)
                for method, names in methods.items():
                    self.assertIn(method, vars(owner), (name, method))
                    self.assertEqual(arguments(vars(owner)[method])[1:], names.split(), (name, method))

    def test_what_may_be_left_out(self):
        for module, classes in CLASSES.items():
            for name, methods in classes.items():
                owner = getattr(importlib.import_module("ringingcalls." + module), name)
                for method in methods:
                    wanted = LEFT_OUT.get((module, name), {}) if method == "__init__" else {}
                    self.assertEqual(defaults(vars(owner)[method]), wanted, (name, method))
        for module, functions in FUNCTIONS.items():
            for name in functions:
                self.assertEqual(defaults(getattr(importlib.import_module("ringingcalls." + module), name)), {}, name)

    def test_those_behind_a_bare_star_by_names_alone(self):
        for module, classes in LEFT_OUT.items():
            owner = getattr(importlib.import_module("ringingcalls." + module[0]), module[1])
            with self.assertRaises(TypeError):
                owner("ann", "asker", "hub", ())

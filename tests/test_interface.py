"""The interface: each name is there, takes its arguments by their names, and stands in its class itself."""

import importlib
import inspect
import unittest

# Of each module: its functions and classes, each with its arguments' names; those behind a bare * have a * ahead.
FUNCTIONS = {
    "things": {
        "is_whole": "thing", "is_count": "thing most", "is_name": "thing", "is_rank": "thing", "is_call": "thing",
        "is_talk": "thing", "is_target": "thing", "is_path": "thing",
    },
    "letters": {
        "is_letter": "thing", "look_at_names": "thing", "led": "letter names", "call_named": "call names",
        "talk_named": "talk names",
    },
    "pairs": {"pair_ends": "sort lost"},
}
CLASSES = {
    "askers": {"Asker": {
        "__init__": "sort", "beat": "", "hear": "word", "give_up": "", "manner": "", "state": "", "end": "", "beats": "",
        "twin": "", "__eq__": "other",
    }},
    "askeds": {"Asked": {
        "__init__": "sort", "say": "word", "hear_again": "", "hear_sure": "", "beat": "", "manner": "", "state": "",
        "end": "", "is_sure": "", "twin": "", "__eq__": "other",
    }},
    "forks": {"Fork": {
        "__init__": "groups", "begin": "", "rings": "target", "taken": "target", "no": "target rank", "late": "target",
        "give_up": "", "asked": "", "ends": "", "is_over": "", "best": "", "twin": "", "__eq__": "other",
    }},
    "places": {"Places": {
        "__init__": "", "tell": "person target weight beats", "beat": "", "groups": "person", "persons": "",
        "left": "person target", "twin": "", "__len__": "", "__eq__": "other",
    }},
    "talks": {"Talk": {
        "__init__": "role text *without", "held": "", "end": "", "change": "text", "answered": "answer", "gone": "",
        "beat": "", "hear_again": "number text", "hear_bye": "number", "role": "", "state": "", "changes": "",
        "numbers": "", "under_way": "", "to_come": "", "twin": "", "__eq__": "other",
    }},
}


def arguments(function):
    """The names of a function's arguments, in order."""
    told = []
    for name, parameter in inspect.signature(function).parameters.items():
        told.append("*" + name if parameter.kind == parameter.KEYWORD_ONLY else name)
    return told


class Interface(unittest.TestCase):
    def test_functions(self):
        for module, functions in FUNCTIONS.items():
            for name, names in functions.items():
                function = getattr(importlib.import_module("ringingcalls." + module), name)
                self.assertEqual(arguments(function), names.split(), (module, name))

    def test_methods_stand_in_their_class(self):
        for module, classes in CLASSES.items():
            for name, methods in classes.items():
                owner = getattr(importlib.import_module("ringingcalls." + module), name)
                for method, names in methods.items():
                    self.assertIn(method, vars(owner), (name, method))
                    self.assertEqual(arguments(vars(owner)[method])[1:], names.split(), (name, method))

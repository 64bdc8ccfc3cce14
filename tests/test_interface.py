"""The names and arguments that the document's interface tells, module by module."""

import importlib
import inspect
import unittest

FUNCTIONS = {
    "words": {"steps_of": ["letters"], "back": ["word"], "thinned": ["word"], "raised": ["word", "power"],
              "filled_in": ["word", "images"]},
    "texts": {"read": ["names", "text"], "shown": ["names", "word"], "read_list": ["names", "text"],
              "shown_list": ["names", "words"]},
    "closing": {"gone": ["rooms", "room", "word"], "close": ["rooms", "rules", "part"]},
    "orders": {"order_by": ["name"]},
    "tables": {"numbered": ["rooms"], "led": ["table", "room", "word"]},
    "filling": {"fill": ["letters", "rules", "part", "limit", "order"]},
    "judge": {"judged": ["letters", "rules", "part", "paper"]},
    "turnings": {"turning": ["table", "word"], "rings": ["turned"], "times": ["turned"],
                 "parted": ["table", "one", "other"]},
    "ways": {"least_ways": ["table"]},
    "inner": {"inner_letters": ["table"], "inner_words": ["table"], "told_in": ["table", "room", "word"],
              "inner_rules": ["table", "rules"]},
    "kin": {"carries": ["rules", "table", "images"], "homes": ["letters", "rules", "table"], "onto": ["table", "home"],
            "kin": ["one", "other", "limit"]},
}

# Arguments that may be left out, and what they are then; all others must be there.
DEFAULTS = {"fill": {"order": "rooms"}}

CLASSES = {
    "errors": {"TooMany": (["made", "rows"], {})},
    "rooms": {"Rooms": (["letters"], {"make": ["room", "step"], "lay": ["room", "step", "other", "row"],
                                      "by": ["room", "step"], "elder": ["room"], "standing": [], "paper": []})},
    "orders": {"Order": ([], {"gap": ["rooms"]}), "ByLetters": ([], {"gap": ["rooms"]}),
               "Newest": ([], {"gap": ["rooms"]})},
    "desk": {"Desk": ([], {"say": ["row"]})},
}


def arguments(called):
    return [name for name in inspect.signature(called).parameters if name != "self"]


def defaults(called):
    parameters = inspect.signature(called).parameters
    return {name: told.default for name, told in parameters.items() if told.default is not told.empty}


class Interface(unittest.TestCase):
    def test_functions(self):
        for module, functions in FUNCTIONS.items():
            for name, told in functions.items():
                function = getattr(importlib.import_module(f"cosetyard.{module}"), name)
                self.assertTrue(inspect.isfunction(function), name)
                self.assertEqual(arguments(function), told, name)
                self.assertEqual(defaults(function), DEFAULTS.get(name, {}), name)

    def test_classes(self):
        for module, classes in CLASSES.items():
            for name, (told, methods) in classes.items():
                kind = getattr(importlib.import_module(f"cosetyard.{module}"), name)
                self.assertTrue(inspect.isclass(kind), name)
                self.assertEqual(arguments(kind) if told else [], told, name)
                for method, wanted in methods.items():
                    self.assertEqual(arguments(getattr(kind, method)), wanted, (name, method))


if __name__ == "__main__":
    unittest.main()

"""The names and arguments that the document's interface tells, module by module."""

import importlib
import inspect
import unittest

FUNCTIONS = {
    "words": {"steps_of": ["letters"], "back": ["word"], "thinned": ["word"], "raised": ["word", "power"],
              "filled_in": ["word", "images"]},
    "texts": {"read": ["names", "text"], "shown": ["names", "word"], "read_list": ["names", "text"],
              "shown_list": ["names", "words"]},
    "closing": {"gone": ["rooms", "room", "word"], "close": ["rooms", "rules", "part"]},
    "orders": {"order_by": ["name"]},
    "tables": {"numbered": ["rooms"], "led": ["table", "room", "word"]},
}

CLASSES = {
    "errors": {"TooMany": (["made", "rows"], {})},
    "rooms": {"Rooms": (["letters"], {"make": ["room", "step"], "lay": ["room", "step", "other", "row"],
                                      "by": ["room", "step"], "elder": ["room"], "standing": [], "paper": []})},
    "orders": {"Order": ([], {"gap": ["rooms"]}), "ByLetters": ([], {"gap": ["rooms"]}),
               "Newest": ([], {"gap": ["rooms"]})},
}


def arguments(called):
    return [name for name in inspect.signature(called).parameters if name != "self"]


class Interface(unittest.TestCase):
    def test_functions(self):
        for module, functions in FUNCTIONS.items():
            for name, told in functions.items():
                function = getattr(importlib.import_module(f"cosetyard.{module}"), name)
                self.assertTrue(inspect.isfunction(function), name)
                self.assertEqual(arguments(function), told, name)

    def test_classes(self):
        for module, classes in CLASSES.items():
            for name, (told, methods) in classes.items():
                kind = getattr(importlib.import_module(f"cosetyard.{module}"), name)
                self.assertTrue(inspect.isclass(kind), name)
                self.assertEqual(arguments(kind) if told else [], told, name)
                for method, wanted in methods.items():
                    self.assertEqual(arguments(getattr(kind, method)), wanted, (name, method))


if __name__ == "__main__":
    unittest.main()

"""Checks that everything that the interface lists exists, with its arguments, in the file that lists it."""

import importlib
import inspect
import unittest

FUNCTIONS = {
    "policies": {"orders": "world policy names", "is_enough": "world policy", "first_split": "world policy",
                 "ends": "world policy", "trimmed": "world policy", "is_table": "world policy table"},
    "agreeing": {"policy_cost": "world policy costs", "agreement": "world costs"},
    "working": {"work_of": "world policy names", "hardest": "world policy", "works": "world policy"},
    "texts": {"world_text": "world", "policy_text": "world policy", "read_world": "text", "read_policy": "world text"},
}
CLASSES = {
    "changes": {"Put": "slot value", "Move": "slot source", "Add": "slot value", "AddSlot": "slot source",
                "Raise": "slot value", "Lower": "slot value", "If": "slot value change"},
    "worlds": {"World": "slots stores changes"},
    "agreeing": {"Agreement": "policy table doubts"},
    "replicas": {"Replica": "world policy start"},
}
METHODS = {
    "World": {"change": "self name", "end": "self store order", "sets": "self"},
    "Agreement": {"shows": "self world costs"},
    "Replica": {"receive": "self name", "lacking": "self other", "sync": "self other"},
}
PROPERTIES = {"World": ["slots", "stores", "names"], "Replica": ["received", "order", "store", "work"]}
CLASS_METHODS = {"Add": {"one": "slot"}, "Replica": {"at": "world policy start names"}}
GENERATORS = [("policies", "orders"), ("working", "works")]
GENERATOR_METHODS = [("World", "sets"), ("Replica", "lacking")]


def module(name):
    return importlib.import_module("orderpairs." + name)


def arguments(function):
    return list(inspect.signature(function).parameters)


def classes():
    for file, listed in CLASSES.items():
        for name, words in listed.items():
            yield file, getattr(module(file), name), words


class Interface(unittest.TestCase):
    def test_functions(self):
        for file, listed in FUNCTIONS.items():
            for name, words in listed.items():
                function = getattr(module(file), name)
                self.assertTrue(inspect.isfunction(function), name)
                self.assertEqual(function.__module__, "orderpairs." + file, name)
                self.assertEqual(arguments(function), words.split(), name)

    def test_classes(self):
        for file, made, words in classes():
            self.assertTrue(inspect.isclass(made))
            self.assertEqual(made.__module__, "orderpairs." + file, made)
            self.assertEqual(arguments(made), words.split(), made)

    def test_methods_stand_in_the_class_itself(self):
        for file, made, words in classes():
            for name, parameters in METHODS.get(made.__name__, {}).items():
                self.assertEqual(arguments(vars(made)[name]), parameters.split(), (made, name))
            for name in PROPERTIES.get(made.__name__, []):
                self.assertIsInstance(vars(made)[name], property, (made, name))
            for name, parameters in CLASS_METHODS.get(made.__name__, {}).items():
                self.assertIsInstance(vars(made)[name], classmethod, (made, name))
                self.assertEqual(arguments(getattr(made, name)), parameters.split(), (made, name))

    def test_every_change_has_its_own_methods(self):
        changes = module("changes")
        for made in [changes.Change] + [getattr(changes, name) for name in CLASSES["changes"]]:
            self.assertIn("apply", vars(made))
            self.assertIn("__eq__", vars(made))
            self.assertIsInstance(vars(made)["slots"], property)

    def test_classes_that_compare(self):
        for name, file in [("World", "worlds"), ("Agreement", "agreeing")]:
            self.assertIn("__eq__", vars(getattr(module(file), name)))

    def test_generators(self):
        for file, name in GENERATORS:
            self.assertTrue(inspect.isgeneratorfunction(getattr(module(file), name)), name)
        for file, made, words in classes():
            for owner, name in GENERATOR_METHODS:
                if owner == made.__name__:
                    self.assertTrue(inspect.isgeneratorfunction(vars(made)[name]), name)


if __name__ == "__main__":
    unittest.main()

"""Every name of the interface, with its arguments, stands where the document says."""

import importlib
import inspect
import unittest

FUNCTIONS = {
    "councils": {"turned": ["council"], "both": ["one", "other"], "either": ["one", "other"],
                 "weighted": ["weights", "quota"]},
    "tellings": {"telling": ["council"]},
    "ranks": {"stands": ["council", "one", "other"], "ranked": ["council"]},
    "turns": {"swings": ["council"], "orders": ["council"], "needed": ["council"], "idle": ["council"]},
    "notes": {"written": ["council"], "read": ["text"]},
}

CLASSES = {
    "councils": {"Council": ["members", "groups"]},
    "tellings": {"Weights": ["weights", "quota"], "Trade": ["carry", "fail"]},
    "ranks": {"Ranks": ["ranks"], "Unranked": ["one", "other", "first", "second"]},
}

METHODS = {
    "councils": {"Council": {"carries": ["self", "group"], "least": ["self"], "greatest": ["self"]}},
    "tellings": {name: {"holds": ["self", "council"]} for name in ("Answer", "Weights", "Trade")},
    "ranks": {name: {"holds": ["self", "council"]} for name in ("Ranks", "Unranked")},
}


def arguments(called):
    return list(inspect.signature(called).parameters)


def named(module, name):
    return getattr(importlib.import_module("weighvote." + module), name)


class Interface(unittest.TestCase):
    def test_functions(self):
        for module, functions in FUNCTIONS.items():
            for name, wanted in functions.items():
                self.assertTrue(inspect.isfunction(named(module, name)), name)
                self.assertEqual(arguments(named(module, name)), wanted, name)

    def test_classes(self):
        for module, classes in CLASSES.items():
            for name, wanted in classes.items():
                self.assertTrue(inspect.isclass(named(module, name)), name)
                self.assertEqual(arguments(named(module, name)), wanted, name)

    def test_methods(self):
        for module, classes in METHODS.items():
            for class_name, methods in classes.items():
                for name, wanted in methods.items():
                    self.assertEqual(arguments(getattr(named(module, class_name), name)), wanted, name)

    def test_each_class_sets_its_arguments_as_values(self):
        made = {"Weights": ([1], 1), "Trade": ([3], [5]), "Ranks": ([[0]],), "Unranked": (0, 1, 4, 8)}
        for module in ("tellings", "ranks"):
            for name, fields in CLASSES[module].items():
                answer = named(module, name)(*made[name])
                self.assertEqual([getattr(answer, field) for field in fields], list(made[name]))
        self.assertEqual(named("councils", "Council")(3, [1]).members, 3)


if __name__ == "__main__":
    unittest.main()

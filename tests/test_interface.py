"""The interface: each name stands in the file under which the document lists it."""

import inspect
import unittest

from innkinds import errors, houses, needs

FUNCTIONS = {
    houses: {
        "is_house": ["counts"],
        "room_count": ["counts"],
        "kind_of": ["counts", "room"],
        "rooms_of": ["counts", "kind"],
    },
    needs: {
        "is_span": ["counts", "first", "last", "kind"],
        "wants_on": ["stays", "night"],
        "rooms_on": ["counts", "closings", "night"],
        "short_kind": ["counts", "rooms", "wants"],
        "short_night": ["counts", "closings", "stays"],
    },
}
CLASSES = {
    errors: ["InnError", "BadHouse", "BadSpan", "Full", "NoPromise", "NoClosing", "NoWayBack"],
}


class InterfaceTest(unittest.TestCase):
    def test_functions_and_their_arguments(self):
        for module, functions in FUNCTIONS.items():
            for name, arguments in functions.items():
                with self.subTest(name=name):
                    function = getattr(module, name)
                    self.assertTrue(inspect.isfunction(function))
                    self.assertEqual(function.__module__, module.__name__)
                    self.assertEqual(list(inspect.signature(function).parameters), arguments)

    def test_classes(self):
        for module, names in CLASSES.items():
            for name in names:
                with self.subTest(name=name):
                    found = getattr(module, name)
                    self.assertTrue(inspect.isclass(found))
                    self.assertEqual(found.__module__, module.__name__)


if __name__ == "__main__":
    unittest.main()

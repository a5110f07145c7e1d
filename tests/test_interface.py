"""The interface: each name stands in the file under which the document lists it."""

import inspect
import unittest

from innkinds import errors, houses, inn, needs, papers, plans, tonight

FUNCTIONS = {
    houses: {
        "is_house": ["counts"],
        "room_count": ["counts"],
        "kind_of": ["counts", "room"],
        "rooms_of": ["counts", "kind"],
    },
    needs: {
        "is_span": ["counts", "first", "last", "kind"],
        "wants_on": ["stays", "night"],
        "rooms_on": ["counts", "closings", "night"],
        "short_kind": ["counts", "rooms", "wants"],
        "short_night": ["counts", "closings", "stays"],
    },
    papers: {"paper_number": ["counts", "rooms", "wants", "ahead", "paper"]},
    tonight: {"tonight": ["counts", "rooms", "wants", "ahead"]},
    plans: {"plan": ["counts", "closings", "stays"]},
}
CLASSES = {
    errors: ["InnError", "BadHouse", "BadSpan", "Full", "NoPromise", "NoClosing", "NoWayBack"],
    inn: ["Inn"],
}
METHODS = {
    "promise": ["first", "last", "kind"],
    "close": ["first", "last", "kind"],
    "drop": ["number"],
    "reopen": ["number"],
    "undo": [],
    "promises": [],
    "closings": [],
    "nights": [],
    "rooms_for": ["number"],
}


class InterfaceTest(unittest.TestCase):
    def test_functions_and_their_arguments(self):
        for module, functions in FUNCTIONS.items():
            for name, arguments in functions.items():
                with self.subTest(name=name):
                    function = getattr(module, name)
                    self.assertTrue(inspect.isfunction(function))
                    self.assertEqual(function.__module__, module.__name__)
                    self.assertEqual(list(inspect.signature(function).parameters), arguments)

    def test_classes(self):
        for module, names in CLASSES.items():
            for name in names:
                with self.subTest(name=name):
                    found = getattr(module, name)
                    self.assertTrue(inspect.isclass(found))
                    self.assertEqual(found.__module__, module.__name__)

    def test_the_inn_is_made_of_counts(self):
        self.assertEqual(list(inspect.signature(inn.Inn).parameters), ["counts"])

    def test_methods_stand_in_the_class_itself(self):
        for name, arguments in METHODS.items():
            with self.subTest(name=name):
                method = vars(inn.Inn)[name]
                self.assertTrue(inspect.isfunction(method))
                self.assertEqual(list(inspect.signature(method).parameters), ["self"] + arguments)

    def test_names_of_arguments(self):
        self.assertEqual(papers.paper_number(counts=[1], rooms=[0], wants={}, ahead={}, paper=[0]), -1)
        self.assertEqual(tonight.tonight(counts=[1], rooms=[0], wants={3: 0}, ahead={}), ({3: 0}, [], []))
        self.assertEqual(len(plans.plan(counts=[1], closings={}, stays={0: (0, 2, 0)})), 2)
        one = inn.Inn(counts=[1])
        self.assertEqual((one.promise(first=0, last=2, kind=0), one.close(first=3, last=4, kind=0)), (0, 0))
        self.assertEqual(one.rooms_for(number=0), [0, 0])
        self.assertIsNone(one.drop(number=0))
        self.assertIsNone(one.reopen(number=0))


if __name__ == "__main__":
    unittest.main()

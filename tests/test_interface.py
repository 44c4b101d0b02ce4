"""The interface: every name and every argument, as they stand in the document."""

import importlib
import inspect
import unittest

FUNCTIONS = {
    "downstair.tapes": {
        "looked": "machine", "begun": "word", "stepped": "machine stand", "gone": "machine stand most",
    },
    "downstair.piles": {
        "piled": "machine stand", "unpiled": "machine pile", "pile_stepped": "machine pile",
    },
    "downstair.counters": {
        "spot_stepped": "rows spot", "spot_gone": "rows spot most",
    },
    "downstair.making": {
        "rows_of": "machine", "entry": "machine room sign", "spot_of": "machine stand", "stand_of": "machine spot",
        "cost": "machine stand",
    },
    "downstair.numbers": {
        "primes": "many", "pairs_of": "rows", "number_of": "spot", "spot_of_number": "rows number",
        "number_stepped": "pairs number", "number_gone": "pairs number most",
    },
    "downstair.notes": {
        "shown": "machine", "read": "text",
    },
}


class InterfaceTest(unittest.TestCase):
    def test_names_and_arguments(self):
        for module, functions in FUNCTIONS.items():
            for name, arguments in functions.items():
                with self.subTest(module=module, name=name):
                    function = getattr(importlib.import_module(module), name)
                    self.assertTrue(inspect.isfunction(function))
                    self.assertEqual(list(inspect.signature(function).parameters), arguments.split())
                    self.assertEqual(function.__defaults__, None)

    def test_errors(self):
        errors = importlib.import_module("downstair.errors")
        for name in ("StairError", "NoMachine", "NoNote"):
            self.assertTrue(issubclass(getattr(errors, name), errors.StairError))
